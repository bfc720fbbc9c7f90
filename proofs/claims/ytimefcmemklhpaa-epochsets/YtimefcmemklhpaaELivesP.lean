/- What the epochs of a book go through: held, dying, no more. Nothing of the program's walk is used here. -/
import Derived.Test.YtimefcmemklhpaaEMoved
namespace Go.Proofs.Ytimefcmemklhpaa.E

/-- Is it held; is it dying? -/
def hm (b : Bo) (x : Int) : Prop := ∃ i, i < 65 ∧ (x ∈ b.sets i ∨ (b.inn i = x ∧ x ≠ 0))
def dm (b : Bo) (x : Int) : Prop := x ∈ b.sets 65 ∨ x ∈ b.sets 66
theorem mem_held {b : Bo} {x : Int} : x ∈ heldL b ↔ hm b x := by
  unfold heldL hm
  rw [mem_up, List.mem_flatMap]
  constructor
  · rintro ⟨i, hi, hx⟩
    refine ⟨i, List.mem_range.1 hi, ?_⟩
    unfold lst at hx
    rcases List.mem_append.1 hx with h | h
    · exact Or.inl h
    · split at h
      · cases h
      · rename_i h0
        simp at h
        exact Or.inr ⟨h.symm, by rw [h]; exact h0⟩
  · rintro ⟨i, hi, h⟩
    refine ⟨i, List.mem_range.2 hi, ?_⟩
    unfold lst
    rcases h with h | ⟨h, h0⟩
    · exact List.mem_append_left _ h
    · refine List.mem_append_right _ ?_
      rw [h, if_neg h0]
      simp
theorem mem_dying {b : Bo} {x : Int} : x ∈ dyingL b ↔ dm b x := by
  unfold dyingL dm
  rw [List.mem_mergeSort, List.mem_append]
/-- What is known of a book besides. -/
structure Jb (b : Bo) : Prop where
  a : ∀ x, hm b x → ¬ dm b x
  c : ∀ x ∈ b.sets 65, x ∉ b.sets 66
  d : b.begun = false → b.sets 66 = []
  i1 : ∀ i j, i < 65 → j < 65 → b.inn i ≠ 0 → b.inn i ∉ b.sets j
  i2 : ∀ i j, i < 65 → j < 65 → b.inn i ≠ 0 → b.inn i = b.inn j → i = j
theorem ri_dying {b : Bo} (h : Wf b) (j : Jb b) : Ri (dyingL b) := by
  have h1 : (dyingL b).Pairwise (fun x y => decide (x ≤ y) = true) := by
    unfold dyingL
    exact List.pairwise_mergeSort (fun a b c h1 h2 => by simp at *; omega) (fun a b => by simp; omega) _
  have h2 : (dyingL b).Nodup := by
    unfold dyingL
    refine (List.mergeSort_perm _ _).nodup_iff.2 ?_
    rw [List.nodup_append]
    refine ⟨ri_nodup (h.ri 65), ri_nodup (h.ri 66), fun x hx y hy e => ?_⟩
    subst e
    exact j.c x hx hy
  refine (h1.and h2).imp (fun {x y} hxy => ?_)
  have := hxy.1
  have := hxy.2
  simp at *
  omega
theorem hm_lo {b : Bo} (h : Wf b) {x : Int} (hx : hm b x) : 1 ≤ x ∧ x < b.now := by
  obtain ⟨i, _, hx | ⟨hx, h0⟩⟩ := hx
  · exact h.lo i x hx
  · have := h.inn i
    omega
theorem dm_lo {b : Bo} (h : Wf b) {x : Int} (hx : dm b x) : 1 ≤ x ∧ x < b.now := by
  rcases hx with hx | hx
  · exact h.lo _ x hx
  · exact h.lo _ x hx
theorem Jb.new (pins : Int) : Jb (newB pins) := by
  refine ⟨fun x hx => ?_, fun x hx => ?_, fun _ => rfl, fun i j _ _ h => absurd rfl h, fun i j _ _ h => absurd rfl h⟩
  · obtain ⟨i, _, hx | ⟨hx, h0⟩⟩ := hx
    · exact absurd hx List.not_mem_nil
    · exact absurd hx.symm h0
  · exact absurd hx List.not_mem_nil
theorem some_true {b : Bo} {e : Int} : some' b e = true ↔ ∃ i, i < 65 ∧ e ∈ b.sets i := by
  unfold some'
  rw [List.any_eq_true]
  constructor
  · rintro ⟨i, hi, h⟩
    exact ⟨i, List.mem_range.1 hi, hasB_true.1 h⟩
  · rintro ⟨i, hi, h⟩
    exact ⟨i, List.mem_range.2 hi, hasB_true.2 h⟩
theorem some_loose9 (b : Bo) (e x : Int) : some' (loose b e) x = some' b x := by
  rw [Bool.eq_iff_iff, some_true, some_true]
  constructor
  · rintro ⟨i, hi, h⟩
    rw [loose_sets b e (by omega)] at h
    exact ⟨i, hi, h⟩
  · rintro ⟨i, hi, h⟩
    refine ⟨i, hi, ?_⟩
    rw [loose_sets b e (by omega)]
    exact h
theorem loose_65 (b : Bo) (e x : Int) : x ∈ (loose b e).sets 65 ↔ x ∈ b.sets 65 ∨ (x = e ∧ some' b x = false) := by
  unfold loose
  by_cases h : some' b e = true
  · rw [if_pos h]
    constructor
    · exact Or.inl
    · rintro (h' | ⟨rfl, h'⟩)
      · exact h'
      · rw [h] at h'; cases h'
  · rw [if_neg h]
    dsimp only
    rw [upd_same, mem_ins]
    constructor
    · rintro (rfl | h')
      · exact Or.inr ⟨rfl, by simpa using h⟩
      · exact Or.inl h'
    · rintro (h' | ⟨rfl, _⟩)
      · exact Or.inr h'
      · exact Or.inl rfl
/-- A book behind epochs that were let go. -/
structure Lg (b1 b' : Bo) (L : List Int) : Prop where
  sets : ∀ i, i ≠ 65 → b'.sets i = b1.sets i
  inn : b'.inn = b1.inn
  now : b'.now = b1.now
  begun : b'.begun = b1.begun
  die : ∀ x, x ∈ b'.sets 65 ↔ x ∈ b1.sets 65 ∨ (x ∈ L ∧ some' b1 x = false)
theorem Lg.folds : ∀ (L : List Int) (b : Bo), Lg b (L.foldl loose b) L
  | [], b => ⟨fun _ _ => rfl, rfl, rfl, rfl, fun x => by simp⟩
  | e :: L, b => by
    have h := Lg.folds L (loose b e)
    simp only [List.foldl_cons]
    refine ⟨fun i hi => (h.sets i hi).trans (loose_sets b e hi), h.inn.trans (loose_inn b e), h.now.trans (loose_now b e), h.begun.trans (loose_begun b e), fun x => ?_⟩
    rw [h.die, loose_65, some_loose9]
    simp only [List.mem_cons]
    constructor
    · rintro ((h | ⟨h, h'⟩) | ⟨h, h'⟩)
      · exact Or.inl h
      · exact Or.inr ⟨Or.inl h, h'⟩
      · exact Or.inr ⟨Or.inr h, h'⟩
    · rintro (h | ⟨h | h, h'⟩)
      · exact Or.inl (Or.inl h)
      · exact Or.inl (Or.inr ⟨h, h'⟩)
      · exact Or.inr ⟨h, h'⟩
/-- Nothing is sealed, nothing is swept. -/
structure Gb (b b' : Bo) : Prop where
  h1 : ∀ x, hm b' x → hm b x
  h2 : ∀ x, hm b x → hm b' x ∨ dm b' x
  d1 : ∀ x, dm b x → dm b' x
  d2 : ∀ x, dm b' x → dm b x ∨ hm b x
  now : b'.now = b.now
theorem Gb.refl (b : Bo) : Gb b b := ⟨fun _ h => h, fun _ h => Or.inl h, fun _ h => h, fun _ h => Or.inl h, rfl⟩
/-- Epochs are let go. -/
theorem Jb.lets {b b1 b' : Bo} {L : List Int} (j : Jb b) (g : Lg b1 b' L) (hs : ∀ i, i < 65 → ∀ x ∈ b1.sets i, x ∈ b.sets i) (hi : ∀ i, b1.inn i = b.inn i ∨ b1.inn i = 0) (h65 : b1.sets 65 = b.sets 65) (h66 : b1.sets 66 = b.sets 66) (hn : b1.now = b.now) (hb : b1.begun = b.begun)
    (hl : ∀ x, hm b x → hm b1 x ∨ x ∈ L) (hL : ∀ x ∈ L, hm b x) (hI : ∀ x ∈ L, some' b1 x = false → ¬ hm b1 x) : Jb b' ∧ Gb b b' := by
  have e1 : ∀ x, hm b' x ↔ hm b1 x := by
    intro x
    unfold hm
    constructor
    · rintro ⟨i, hi, h⟩
      rw [g.sets i (by omega), g.inn] at h
      exact ⟨i, hi, h⟩
    · rintro ⟨i, hi, h⟩
      refine ⟨i, hi, ?_⟩
      rw [g.sets i (by omega), g.inn]
      exact h
  have e2 : ∀ x, hm b1 x → hm b x := by
    rintro x ⟨i, hi', h | ⟨h, h0⟩⟩
    · exact ⟨i, hi', Or.inl (hs i hi' x h)⟩
    · rcases hi i with h' | h'
      · exact ⟨i, hi', Or.inr ⟨by rw [← h']; exact h, h0⟩⟩
      · exact absurd (h.symm.trans h') h0
  have s66 : b'.sets 66 = b.sets 66 := (g.sets 66 (by omega)).trans h66
  have e3 : ∀ x, dm b' x ↔ dm b x ∨ (x ∈ L ∧ some' b1 x = false) := by
    intro x
    unfold dm
    rw [g.die, h65, s66]
    constructor
    · rintro ((h | h) | h)
      · exact Or.inl (Or.inl h)
      · exact Or.inr h
      · exact Or.inl (Or.inr h)
    · rintro ((h | h) | h)
      · exact Or.inl (Or.inl h)
      · exact Or.inr h
      · exact Or.inl (Or.inr h)
  refine ⟨⟨fun x hx => ?_, fun x hx => ?_, fun h => ?_, fun i k hi' hk h0 => ?_, fun i k hi' hk h0 he => ?_⟩, ⟨fun x h => e2 x ((e1 x).1 h), fun x h => ?_, fun x h => (e3 x).2 (Or.inl h), fun x h => ?_, g.now.trans hn⟩⟩
  · rw [e3]
    have hx1 := (e1 x).1 hx
    rintro (h | ⟨h, h'⟩)
    · exact j.a x (e2 x hx1) h
    · exact hI x h h' hx1
  · rw [s66]
    rcases (g.die x).1 hx with h | ⟨h, _⟩
    · rw [h65] at h
      exact j.c x h
    · exact fun h' => j.a x (hL x h) (Or.inr h')
  · rw [s66]
    exact j.d (by rw [← hb, ← g.begun]; exact h)
  · rw [g.inn] at h0 ⊢
    rw [g.sets k (by omega)]
    rcases hi i with h' | h'
    · rw [h'] at h0 ⊢
      exact fun h => j.i1 i k hi' hk h0 (hs k hk _ h)
    · exact absurd h' h0
  · rw [g.inn] at h0 he
    rcases hi i with h' | h'
    · rcases hi k with h2 | h2
      · rw [h'] at h0
        rw [h', h2] at he
        exact j.i2 i k hi' hk h0 he
      · exact absurd (he.trans h2) h0
    · exact absurd h' h0
  · by_cases h1 : hm b1 x
    · exact Or.inl ((e1 x).2 h1)
    · refine Or.inr ((e3 x).2 (Or.inr ?_))
      have hx := (hl x h).resolve_left h1
      refine ⟨hx, ?_⟩
      rw [Bool.eq_false_iff]
      intro ht
      obtain ⟨i, hi', hm'⟩ := some_true.1 ht
      exact h1 ⟨i, hi', Or.inl hm'⟩
  · rcases (e3 x).1 h with h | ⟨h, _⟩
    · exact Or.inl h
    · exact Or.inr (hL x h)
/-- An epoch was sealed. -/
structure Sb (b b' : Bo) : Prop where
  h : ∀ x, hm b' x ↔ hm b x ∨ x = b.now
  d : ∀ x, dm b' x ↔ dm b x
  now : b'.now = b.now + 1
/-- A sweep was ended. -/
structure Eb (b b' : Bo) : Prop where
  h : ∀ x, hm b' x ↔ hm b x
  d : ∀ x, dm b' x ↔ dm b x ∧ x ∉ b.sets 66
  now : b'.now = b.now
/-- What is swept stays. -/
def Kb (b b' : Bo) : Prop := b'.begun = b.begun ∧ b'.sets 66 = b.sets 66
theorem may_nat {o : Int} (h : may o = true) : o.toNat < 65 ∧ o.toNat ≠ 65 ∧ o.toNat ≠ 66 := by
  have := may_true h
  omega
theorem hm_upd {b : Bo} {o : Nat} (ho : o < 65) (l : List Int) (x : Int) : hm { b with sets := upd b.sets o l } x ↔ x ∈ l ∨ ∃ i, i < 65 ∧ ((i ≠ o ∧ x ∈ b.sets i) ∨ (b.inn i = x ∧ x ≠ 0)) := by
  unfold hm
  dsimp only
  constructor
  · rintro ⟨i, hi, h | h⟩
    · by_cases e : i = o
      · subst e; rw [upd_same] at h; exact Or.inl h
      · rw [upd_other _ _ e] at h; exact Or.inr ⟨i, hi, Or.inl ⟨e, h⟩⟩
    · exact Or.inr ⟨i, hi, Or.inr h⟩
  · rintro (h | ⟨i, hi, ⟨e, h⟩ | h⟩)
    · exact ⟨o, ho, Or.inl (by rw [upd_same]; exact h)⟩
    · exact ⟨i, hi, Or.inl (by rw [upd_other _ _ e]; exact h)⟩
    · exact ⟨i, hi, Or.inr h⟩
theorem Jb.sealS {b : Bo} (w : Wf b) (j : Jb b) {o : Int} (he : sealErr b o = 0) : Jb (sealB b o) ∧ Sb b (sealB b o) ∧ Kb b (sealB b o) := by
  have hm0 : may o = true := by
    unfold sealErr at he
    by_cases h : may o = false
    · rw [if_pos h] at he; omega
    · simpa using h
  obtain ⟨o1, o2, o3⟩ := may_nat hm0
  unfold sealB
  rw [if_pos he]
  generalize o.toNat = k at *
  have eh : ∀ x, hm { b with sets := upd b.sets k (ins b.now (b.sets k)), now := b.now + 1 } x ↔ hm b x ∨ x = b.now := by
    intro x
    refine (hm_upd (b := b) o1 _ x).trans ?_
    rw [mem_ins]
    constructor
    · rintro ((h | h) | ⟨i, hi, ⟨_, h⟩ | h⟩)
      · exact Or.inr h
      · exact Or.inl ⟨k, o1, Or.inl h⟩
      · exact Or.inl ⟨i, hi, Or.inl h⟩
      · exact Or.inl ⟨i, hi, Or.inr h⟩
    · rintro (⟨i, hi, h | h⟩ | h)
      · by_cases e : i = k
        · subst e; exact Or.inl (Or.inr h)
        · exact Or.inr ⟨i, hi, Or.inl ⟨e, h⟩⟩
      · exact Or.inr ⟨i, hi, Or.inr h⟩
      · exact Or.inl (Or.inl h)
  have e65 : upd b.sets k (ins b.now (b.sets k)) 65 = b.sets 65 := upd_other _ _ (fun e => o2 e.symm)
  have e66 : upd b.sets k (ins b.now (b.sets k)) 66 = b.sets 66 := upd_other _ _ (fun e => o3 e.symm)
  have ed : ∀ x, dm { b with sets := upd b.sets k (ins b.now (b.sets k)), now := b.now + 1 } x ↔ dm b x := by
    intro x
    unfold dm
    dsimp only
    rw [e65, e66]
  refine ⟨⟨fun x hx => ?_, fun x hx => ?_, fun h => e66.trans (j.d h), fun i l hi hl h0 => ?_, j.i2⟩, ⟨eh, ed, rfl⟩, ⟨rfl, e66⟩⟩
  · rw [ed]
    rcases (eh x).1 hx with h | h
    · exact j.a x h
    · intro h'
      have := dm_lo w h'
      omega
  · dsimp only at hx ⊢
    rw [e65] at hx
    rw [e66]
    exact j.c x hx
  · dsimp only at h0 ⊢
    by_cases e : l = k
    · subst e
      rw [upd_same, mem_ins]
      rintro (h | h)
      · have := w.inn i; omega
      · exact j.i1 i l hi hl h0 h
    · rw [upd_other _ _ e]
      exact j.i1 i l hi hl h0
theorem Jb.innS {b : Bo} (w : Wf b) (j : Jb b) {o : Int} (he : innErr b o = 0) : Jb (innB b o) ∧ Sb b (innB b o) ∧ Kb b (innB b o) := by
  have hm0 : may o = true := by
    unfold innErr at he
    by_cases h : may o = false
    · rw [if_pos h] at he; omega
    · simpa using h
  have hz : b.inn o.toNat = 0 := by
    unfold innErr at he
    rw [if_neg (by simp [hm0])] at he
    by_cases h : b.inn o.toNat ≠ 0
    · rw [if_pos h] at he; omega
    · omega
  obtain ⟨o1, o2, o3⟩ := may_nat hm0
  unfold innB
  rw [if_pos he]
  generalize o.toNat = k at *
  have hn := w.now
  have eh : ∀ x, hm { b with inn := upd b.inn k b.now, now := b.now + 1 } x ↔ hm b x ∨ x = b.now := by
    intro x
    unfold hm
    dsimp only
    constructor
    · rintro ⟨i, hi, h | ⟨h, h0⟩⟩
      · exact Or.inl ⟨i, hi, Or.inl h⟩
      · by_cases e : i = k
        · subst e; rw [upd_same] at h; exact Or.inr h.symm
        · rw [upd_other _ _ e] at h; exact Or.inl ⟨i, hi, Or.inr ⟨h, h0⟩⟩
    · rintro (⟨i, hi, h | ⟨h, h0⟩⟩ | h)
      · exact ⟨i, hi, Or.inl h⟩
      · by_cases e : i = k
        · subst e; omega
        · exact ⟨i, hi, Or.inr ⟨by rw [upd_other _ _ e]; exact h, h0⟩⟩
      · exact ⟨k, o1, Or.inr ⟨by rw [upd_same]; exact h.symm, by omega⟩⟩
  refine ⟨⟨fun x hx => ?_, j.c, j.d, fun i l hi hl h0 => ?_, fun i l hi hl h0 he => ?_⟩, ⟨eh, fun _ => Iff.rfl, rfl⟩, ⟨rfl, rfl⟩⟩
  · rcases (eh x).1 hx with h | h
    · exact j.a x h
    · intro h'
      have := dm_lo w h'
      omega
  · dsimp only at h0 ⊢
    by_cases e : i = k
    · subst e
      rw [upd_same]
      intro h
      have := w.lo l _ h
      omega
    · rw [upd_other _ _ e] at h0 ⊢
      exact j.i1 i l hi hl h0
  · dsimp only at h0 he
    by_cases e : i = k
    · by_cases e' : l = k
      · omega
      · subst e
        rw [upd_same, upd_other _ _ e'] at he
        have := w.inn l
        omega
    · rw [upd_other _ _ e] at h0 he
      by_cases e' : l = k
      · subst e'
        rw [upd_same] at he
        have := w.inn i
        omega
      · rw [upd_other _ _ e'] at he
        exact j.i2 i l hi hl h0 he
theorem Jb.joinS {b : Bo} (j : Jb b) {o e : Int} (he : joinErr b o e = 0) : Jb (joinB b o e) ∧ Gb b (joinB b o e) ∧ Kb b (joinB b o e) := by
  have hm0 : may o = true := by
    unfold joinErr at he
    by_cases h : may o = false
    · rw [if_pos h] at he; omega
    · simpa using h
  have hs : some' b e = true := by
    unfold joinErr at he
    rw [if_neg (by simp [hm0])] at he
    by_cases h : some' b e = false
    · rw [if_pos h] at he; omega
    · simpa using h
  obtain ⟨q, hq, hqe⟩ := some_true.1 hs
  obtain ⟨o1, o2, o3⟩ := may_nat hm0
  unfold joinB
  rw [if_pos he]
  generalize o.toNat = k at *
  have eh : ∀ x, hm { b with sets := upd b.sets k (ins e (b.sets k)) } x ↔ hm b x := by
    intro x
    rw [hm_upd o1, mem_ins]
    constructor
    · rintro ((h | h) | ⟨i, hi, ⟨_, h⟩ | h⟩)
      · subst h; exact ⟨q, hq, Or.inl hqe⟩
      · exact ⟨k, o1, Or.inl h⟩
      · exact ⟨i, hi, Or.inl h⟩
      · exact ⟨i, hi, Or.inr h⟩
    · rintro ⟨i, hi, h | h⟩
      · by_cases e : i = k
        · subst e; exact Or.inl (Or.inr h)
        · exact Or.inr ⟨i, hi, Or.inl ⟨e, h⟩⟩
      · exact Or.inr ⟨i, hi, Or.inr h⟩
  have e65 : upd b.sets k (ins e (b.sets k)) 65 = b.sets 65 := upd_other _ _ (fun e => o2 e.symm)
  have e66 : upd b.sets k (ins e (b.sets k)) 66 = b.sets 66 := upd_other _ _ (fun e => o3 e.symm)
  have ed : ∀ x, dm { b with sets := upd b.sets k (ins e (b.sets k)) } x ↔ dm b x := by
    intro x
    unfold dm
    dsimp only
    rw [e65, e66]
  refine ⟨⟨fun x hx => ?_, fun x hx => ?_, fun h => e66.trans (j.d h), fun i l hi hl h0 => ?_, j.i2⟩, ⟨fun x h => (eh x).1 h, fun x h => Or.inl ((eh x).2 h), fun x h => (ed x).2 h, fun x h => Or.inl ((ed x).1 h), rfl⟩, ⟨rfl, e66⟩⟩
  · rw [ed]; exact j.a x ((eh x).1 hx)
  · dsimp only at hx ⊢
    rw [e65] at hx
    rw [e66]
    exact j.c x hx
  · dsimp only at h0 ⊢
    by_cases e' : l = k
    · subst e'
      rw [upd_same, mem_ins]
      rintro (h | h)
      · rw [← h] at hqe; exact j.i1 i q hi hq h0 hqe
      · exact j.i1 i l hi hl h0 h
    · rw [upd_other _ _ e']
      exact j.i1 i l hi hl h0
theorem Jb.relS {b : Bo} (j : Jb b) {o e : Int} (he : relErr b o e = 0) : Jb (relB b o e) ∧ Gb b (relB b o e) ∧ Kb b (relB b o e) := by
  have hm0 : may o = true := by
    unfold relErr at he
    by_cases h : may o = false
    · rw [if_pos h] at he; omega
    · simpa using h
  have hs : e ∈ b.sets o.toNat := by
    unfold relErr at he
    rw [if_neg (by simp [hm0])] at he
    by_cases h : hasB (b.sets o.toNat) e = false
    · rw [if_pos h] at he; omega
    · exact hasB_true.1 (by simpa using h)
  obtain ⟨o1, o2, o3⟩ := may_nat hm0
  unfold relB
  rw [if_pos he]
  generalize o.toNat = k at *
  have e65 : upd b.sets k (del e (b.sets k)) 65 = b.sets 65 := upd_other _ _ (fun e => o2 e.symm)
  have e66 : upd b.sets k (del e (b.sets k)) 66 = b.sets 66 := upd_other _ _ (fun e => o3 e.symm)
  have g := Lg.folds [e] { b with sets := upd b.sets k (del e (b.sets k)) }
  simp only [List.foldl_cons, List.foldl_nil] at g
  have r := j.lets g (fun i _ x hx => by
      dsimp only at hx
      by_cases e' : i = k
      · subst e'; rw [upd_same] at hx; exact (mem_del.1 hx).1
      · rw [upd_other _ _ e'] at hx; exact hx) (fun i => Or.inl rfl) e65 e66 rfl rfl
    (fun x hx => by
      by_cases ex : x = e
      · exact Or.inr (by simp [ex])
      · refine Or.inl ((hm_upd o1 _ x).2 ?_)
        obtain ⟨i, hi, h | h⟩ := hx
        · by_cases e' : i = k
          · subst e'; exact Or.inl (mem_del.2 ⟨h, ex⟩)
          · exact Or.inr ⟨i, hi, Or.inl ⟨e', h⟩⟩
        · exact Or.inr ⟨i, hi, Or.inr h⟩)
    (fun x hx => by simp at hx; subst hx; exact ⟨k, o1, Or.inl hs⟩)
    (fun x hx hsf => by
      simp at hx
      subst hx
      rintro ⟨i, hi, h | ⟨h, h0⟩⟩
      · have := some_true.2 ⟨i, hi, h⟩
        rw [this] at hsf
        cases hsf
      · dsimp only at h
        exact j.i1 i k hi o1 (by omega) (by rw [h]; exact hs))
  exact ⟨r.1, r.2, g.begun, (g.sets 66 (by omega)).trans e66⟩
theorem Jb.doneS {b : Bo} (j : Jb b) {o : Int} (he : doneErr b o = 0) : Jb (doneB b o) ∧ Gb b (doneB b o) ∧ Kb b (doneB b o) := by
  have hm0 : may o = true := by
    unfold doneErr at he
    by_cases h : may o = false
    · rw [if_pos h] at he; omega
    · simpa using h
  have hs : b.inn o.toNat ≠ 0 := by
    unfold doneErr at he
    rw [if_neg (by simp [hm0])] at he
    by_cases h : b.inn o.toNat = 0
    · rw [if_pos h] at he; omega
    · exact h
  obtain ⟨o1, o2, o3⟩ := may_nat hm0
  unfold doneB
  rw [if_pos he]
  generalize o.toNat = k at *
  have g : Lg { b with inn := upd b.inn k 0 } { loose b (b.inn k) with inn := upd b.inn k 0 } [b.inn k] := by
    refine ⟨fun i hi => loose_sets b _ hi, rfl, loose_now b _, loose_begun b _, fun x => ?_⟩
    dsimp only
    rw [loose_65]
    simp only [List.mem_singleton]
    exact Iff.rfl
  have r := j.lets g (fun i _ x hx => hx) (fun i => by
      dsimp only
      by_cases e' : i = k
      · subst e'; exact Or.inr (upd_same _ _ _)
      · exact Or.inl (upd_other _ _ e')) rfl rfl rfl rfl
    (fun x hx => by
      obtain ⟨i, hi, h | ⟨h, h0⟩⟩ := hx
      · exact Or.inl ⟨i, hi, Or.inl h⟩
      · by_cases e' : i = k
        · subst e'; exact Or.inr (by simp [h])
        · exact Or.inl ⟨i, hi, Or.inr ⟨by dsimp only; rw [upd_other _ _ e']; exact h, h0⟩⟩)
    (fun x hx => by simp at hx; exact ⟨k, o1, Or.inr ⟨hx.symm, by rw [hx]; exact hs⟩⟩)
    (fun x hx hsf => by
      simp at hx
      rintro ⟨i, hi, h | ⟨h, h0⟩⟩
      · have := some_true.2 ⟨i, hi, h⟩
        rw [this] at hsf
        cases hsf
      · dsimp only at h
        by_cases e' : i = k
        · subst e'; rw [upd_same] at h; exact h0 h.symm
        · rw [upd_other _ _ e'] at h
          exact e' (j.i2 i k hi o1 (by omega) (by omega)))
  exact ⟨r.1, r.2, g.begun, g.sets 66 (by omega)⟩
theorem Jb.dropS {b : Bo} (j : Jb b) {o : Int} (hm0 : may o = true) : Jb (dropB b o) ∧ Gb b (dropB b o) ∧ Kb b (dropB b o) := by
  obtain ⟨o1, o2, o3⟩ := may_nat hm0
  unfold dropB
  rw [if_neg (by simp [hm0])]
  generalize o.toNat = k at *
  have g := Lg.folds (lst b k) (cleared b k)
  have e65 : (cleared b k).sets 65 = b.sets 65 := upd_other _ _ (fun e => o2 e.symm)
  have e66 : (cleared b k).sets 66 = b.sets 66 := upd_other _ _ (fun e => o3 e.symm)
  have ml : ∀ x, x ∈ lst b k ↔ x ∈ b.sets k ∨ (b.inn k = x ∧ x ≠ 0) := by
    intro x
    unfold lst
    rw [List.mem_append]
    by_cases h0 : b.inn k = 0
    · rw [if_pos h0]
      constructor
      · rintro (h | h)
        · exact Or.inl h
        · cases h
      · rintro (h | ⟨h, h'⟩)
        · exact Or.inl h
        · omega
    · rw [if_neg h0]
      simp only [List.mem_singleton]
      constructor
      · rintro (h | h)
        · exact Or.inl h
        · exact Or.inr ⟨h.symm, by omega⟩
      · rintro (h | ⟨h, _⟩)
        · exact Or.inl h
        · exact Or.inr h.symm
  have r := j.lets g (fun i _ x hx => by
      unfold cleared at hx
      dsimp only at hx
      by_cases e' : i = k
      · subst e'; rw [upd_same] at hx; cases hx
      · rw [upd_other _ _ e'] at hx; exact hx) (fun i => by
      unfold cleared
      dsimp only
      by_cases e' : i = k
      · subst e'; exact Or.inr (upd_same _ _ _)
      · exact Or.inl (upd_other _ _ e')) e65 e66 rfl rfl
    (fun x hx => by
      obtain ⟨i, hi, h⟩ := hx
      by_cases e' : i = k
      · subst e'; exact Or.inr ((ml x).2 h)
      · refine Or.inl ⟨i, hi, ?_⟩
        unfold cleared
        dsimp only
        rw [upd_other _ _ e', upd_other _ _ e']
        exact h)
    (fun x hx => ⟨k, o1, (ml x).1 hx⟩)
    (fun x hx hsf => by
      rintro ⟨i, hi, h | ⟨h, h0⟩⟩
      · have := some_true.2 ⟨i, hi, h⟩
        rw [this] at hsf
        cases hsf
      · unfold cleared at h
        dsimp only at h
        by_cases e' : i = k
        · subst e'; rw [upd_same] at h; exact h0 h.symm
        · rw [upd_other _ _ e'] at h
          rcases (ml x).1 hx with h' | ⟨h', _⟩
          · exact j.i1 i k hi o1 (by omega) (by rw [h]; exact h')
          · exact e' (j.i2 i k hi o1 (by omega) (by omega)))
  exact ⟨r.1, r.2, g.begun, (g.sets 66 (by omega)).trans e66⟩
theorem drop_none {b : Bo} {o : Int} (h : ¬ 0 < dropN b o) : dropB b o = b := by
  unfold dropN at h
  unfold dropB
  by_cases hm0 : may o = false
  · rw [if_pos hm0]
  · rw [if_neg hm0] at h ⊢
    have hl : lst b o.toNat = [] := List.eq_nil_of_length_eq_zero (by omega)
    rw [hl]
    unfold lst at hl
    have h1 := (List.append_eq_nil_iff.1 hl).1
    have h2 : b.inn o.toNat = 0 := by
      have := (List.append_eq_nil_iff.1 hl).2
      split at this
      · assumption
      · cases this
    show cleared b o.toNat = b
    unfold cleared
    have e1 : upd b.sets o.toNat [] = b.sets := funext (fun i => by
      by_cases e : i = o.toNat
      · rw [e, upd_same, h1]
      · exact upd_other _ _ e)
    have e2 : upd b.inn o.toNat 0 = b.inn := funext (fun i => by
      by_cases e : i = o.toNat
      · rw [e, upd_same, h2]
      · exact upd_other _ _ e)
    rw [e1, e2]
theorem Jb.beginS {b : Bo} (j : Jb b) (hb : b.begun = false) : Jb (beginB b) ∧ Gb b (beginB b) ∧ (beginB b).begun = true ∧ ∀ x, x ∈ (beginB b).sets 66 ↔ x ∈ dyingL b := by
  unfold beginB
  rw [if_neg (by simp [hb])]
  have hd := j.d hb
  have e65 : upd (upd b.sets 66 (b.sets 65)) 65 [] 65 = [] := upd_same _ _ _
  have e66 : upd (upd b.sets 66 (b.sets 65)) 65 [] 66 = b.sets 65 := by rw [upd_other _ _ (by omega), upd_same]
  have eo : ∀ i, i < 65 → upd (upd b.sets 66 (b.sets 65)) 65 [] i = b.sets i := fun i hi => by rw [upd_other _ _ (by omega), upd_other _ _ (by omega)]
  have eh : ∀ x, hm { b with begun := true, sets := upd (upd b.sets 66 (b.sets 65)) 65 [] } x ↔ hm b x := by
    intro x
    unfold hm
    dsimp only
    constructor
    · rintro ⟨i, hi, h⟩; rw [eo i hi] at h; exact ⟨i, hi, h⟩
    · rintro ⟨i, hi, h⟩; exact ⟨i, hi, by rw [eo i hi]; exact h⟩
  have ed : ∀ x, dm { b with begun := true, sets := upd (upd b.sets 66 (b.sets 65)) 65 [] } x ↔ dm b x := by
    intro x
    unfold dm
    dsimp only
    rw [e65, e66, hd]
    constructor
    · rintro (h | h)
      · cases h
      · exact Or.inl h
    · rintro (h | h)
      · exact Or.inr h
      · cases h
  refine ⟨⟨fun x hx => ?_, fun x hx => ?_, (fun h => by cases h), fun i l hi hl h0 => ?_, j.i2⟩, ⟨fun x h => (eh x).1 h, fun x h => Or.inl ((eh x).2 h), fun x h => (ed x).2 h, fun x h => Or.inl ((ed x).1 h), rfl⟩, rfl, fun x => ?_⟩
  · rw [ed]; exact j.a x ((eh x).1 hx)
  · dsimp only at hx
    rw [e65] at hx
    cases hx
  · dsimp only at h0 ⊢
    rw [eo l hl]
    exact j.i1 i l hi hl h0
  · dsimp only
    rw [mem_dying]
    unfold dm
    rw [e66, hd]
    simp
theorem Jb.endS {b : Bo} (j : Jb b) (hb : b.begun = true) : Jb (endB b) ∧ Eb b (endB b) ∧ (endB b).begun = false := by
  unfold endB
  rw [if_pos hb]
  have e66 : upd b.sets 66 [] 66 = [] := upd_same _ _ _
  have eo : ∀ i, i < 66 → upd b.sets 66 [] i = b.sets i := fun i hi => upd_other _ _ (by omega)
  have eh : ∀ x, hm { b with begun := false, sets := upd b.sets 66 [] } x ↔ hm b x := by
    intro x
    unfold hm
    dsimp only
    constructor
    · rintro ⟨i, hi, h⟩; rw [eo i (by omega)] at h; exact ⟨i, hi, h⟩
    · rintro ⟨i, hi, h⟩; exact ⟨i, hi, by rw [eo i (by omega)]; exact h⟩
  have ed : ∀ x, dm { b with begun := false, sets := upd b.sets 66 [] } x ↔ dm b x ∧ x ∉ b.sets 66 := by
    intro x
    unfold dm
    dsimp only
    rw [eo 65 (by omega), e66]
    constructor
    · rintro (h | h)
      · exact ⟨Or.inl h, j.c x h⟩
      · cases h
    · rintro ⟨h | h, h'⟩
      · exact Or.inl h
      · exact absurd h h'
  refine ⟨⟨fun x hx => ?_, fun x hx => ?_, fun _ => e66, fun i l hi hl h0 => ?_, j.i2⟩, ⟨eh, ed, rfl⟩, rfl⟩
  · rw [ed]; exact fun h => j.a x ((eh x).1 hx) h.1
  · dsimp only
    rw [e66]
    exact List.not_mem_nil
  · dsimp only at h0 ⊢
    rw [eo l (by omega)]
    exact j.i1 i l hi hl h0

open Classical in
/-- What the epochs are: 1 held, 2 dying, 3 no more. -/
noncomputable def stF (b : Bo) (x : Int) : Int := if hm b x then 1 else if dm b x then 2 else if 1 ≤ x ∧ x < b.now then 3 else 0
theorem stF_h {b : Bo} {x : Int} (h : hm b x) : stF b x = 1 := if_pos h
theorem stF_d {b : Bo} {x : Int} (h : ¬ hm b x) (h' : dm b x) : stF b x = 2 := by unfold stF; rw [if_neg h, if_pos h']
theorem stF_n {b : Bo} {x : Int} (h : ¬ hm b x) (h' : ¬ dm b x) (h2 : 1 ≤ x ∧ x < b.now) : stF b x = 3 := by unfold stF; rw [if_neg h, if_neg h', if_pos h2]
theorem stF_z {b : Bo} (w : Wf b) {x : Int} (h2 : ¬ (1 ≤ x ∧ x < b.now)) : stF b x = 0 := by
  unfold stF
  rw [if_neg (fun h => h2 (hm_lo w h)), if_neg (fun h => h2 (dm_lo w h)), if_neg h2]
/-- What 'state' must say ahead of moved. -/
structure Pq (b' : Bo) (f : Int → Int) : Prop where
  p1 : ∀ x, hm b' x → f x = 1
  p2 : ∀ x, dm b' x → f x = 1 ∨ f x = 2
  p3 : ∀ x, 1 ≤ x → x < b'.now → ¬ hm b' x → ¬ dm b' x → f x = 3
  p4 : ∀ x, ¬ (1 ≤ x ∧ x < b'.now) → f x = 0
theorem Pq.mq {b : Bo} {f : Int → Int} (p : Pq b f) (w : Wf b) (j : Jb b) {se : Int} (hse : se + 1 = b.now) : Mq (heldL b) (dyingL b) f se ∧ ∀ x, movedF (heldL b) (dyingL b) f (se + 1) x = stF b x := by
  have hn := w.now
  have fb : ∀ x, 1 ≤ x ∧ x < b.now → fits x := fun x h => by unfold fits; omega
  refine ⟨⟨ri_up _, ri_dying w j, fun x hx => ⟨p.p1 x (mem_held.1 hx), fb x (hm_lo w (mem_held.1 hx))⟩, fun x hx => ?_, fun x h1 h2 => ?_, fun x => ?_⟩, fun x => ?_⟩
  · have hd := mem_dying.1 hx
    refine ⟨?_, ?_, fun h => j.a x (mem_held.1 h) hd, fb x (dm_lo w hd)⟩
    · rcases p.p2 x hd with h | h <;> omega
    · rcases p.p2 x hd with h | h <;> omega
  · by_cases hh : hm b x
    · exact Or.inr (Or.inl (mem_held.2 hh))
    · by_cases hd : dm b x
      · exact Or.inr (Or.inr (mem_dying.2 hd))
      · exact Or.inl (p.p3 x h1 (by omega) hh hd)
  · unfold fits
    by_cases hr : 1 ≤ x ∧ x < b.now
    · by_cases hh : hm b x
      · rw [p.p1 x hh]; omega
      · by_cases hd : dm b x
        · rcases p.p2 x hd with h | h <;> omega
        · rw [p.p3 x hr.1 hr.2 hh hd]; omega
    · rw [p.p4 x hr]; omega
  · rw [hse]
    by_cases hr : 1 ≤ x ∧ x < b.now
    · by_cases hh : hm b x
      · have e : nowF (heldL b) (dyingL b) x = 1 := by
          unfold nowF
          rw [if_neg (fun h => j.a x hh (mem_dying.1 h)), if_pos (mem_held.2 hh)]
        unfold movedF
        rw [e, if_pos ⟨hr.1, hr.2, by omega⟩, stF_h hh]
      · by_cases hd : dm b x
        · have e : nowF (heldL b) (dyingL b) x = 2 := by
            unfold nowF
            rw [if_pos (mem_dying.2 hd)]
          unfold movedF
          rw [e, if_pos ⟨hr.1, hr.2, by omega⟩, stF_d hh hd]
        · have e : nowF (heldL b) (dyingL b) x = 0 := nowF_zero.2 ⟨fun h => hd (mem_dying.1 h), fun h => hh (mem_held.1 h)⟩
          unfold movedF
          rw [e, if_neg (by omega), stF_n hh hd hr, p.p3 x hr.1 hr.2 hh hd]
    · unfold movedF
      rw [if_neg (fun h => hr ⟨h.1, h.2.1⟩), p.p4 x hr, stF_z w hr]
theorem Gb.pq {b b' : Bo} (g : Gb b b') (w : Wf b) : Pq b' (stF b) := by
  refine ⟨fun x h => stF_h (g.h1 x h), fun x h => ?_, fun x h1 h2 h3 h4 => ?_, fun x h => ?_⟩
  · by_cases hh : hm b x
    · exact Or.inl (stF_h hh)
    · exact Or.inr (stF_d hh ((g.d2 x h).resolve_right hh))
  · rw [g.now] at h2
    exact stF_n (fun h => (g.h2 x h).elim h3 h4) (fun h => h4 (g.d1 x h)) ⟨h1, h2⟩
  · rw [g.now] at h
    exact stF_z w h
theorem Sb.pq {b b' : Bo} (g : Sb b b') (w : Wf b) (j : Jb b) : Pq b' (updI (stF b) b.now 1) := by
  have hn := w.now
  refine ⟨fun x h => ?_, fun x h => ?_, fun x h1 h2 h3 h4 => ?_, fun x h => ?_⟩
  · unfold updI
    by_cases e : x = b.now
    · rw [if_pos e]
    · rw [if_neg e]
      exact stF_h (((g.h x).1 h).resolve_right e)
  · have hd := (g.d x).1 h
    have := dm_lo w hd
    unfold updI
    rw [if_neg (by omega)]
    exact Or.inr (stF_d (fun h' => j.a x h' hd) hd)
  · have ne : x ≠ b.now := fun e => h3 ((g.h x).2 (Or.inr e))
    unfold updI
    rw [if_neg ne]
    rw [g.now] at h2
    exact stF_n (fun h => h3 ((g.h x).2 (Or.inl h))) (fun h => h4 ((g.d x).2 h)) ⟨h1, by omega⟩
  · rw [g.now] at h
    unfold updI
    rw [if_neg (by omega)]
    exact stF_z w (by omega)
/-- What a sweep makes of 'state'. -/
def swF (L : List Int) (f : Int → Int) (x : Int) : Int := if x ∈ L then 3 else f x
theorem Eb.pq {b b' : Bo} (g : Eb b b') (w : Wf b) (j : Jb b) {L : List Int} (hL : ∀ x, x ∈ L ↔ x ∈ b.sets 66) : Pq b' (swF L (stF b)) := by
  refine ⟨fun x h => ?_, fun x h => ?_, fun x h1 h2 h3 h4 => ?_, fun x h => ?_⟩
  · have hh := (g.h x).1 h
    unfold swF
    rw [if_neg (fun h' => j.a x hh (Or.inr ((hL x).1 h')))]
    exact stF_h hh
  · obtain ⟨hd, h6⟩ := (g.d x).1 h
    unfold swF
    rw [if_neg (fun h' => h6 ((hL x).1 h'))]
    exact Or.inr (stF_d (fun h' => j.a x h' hd) hd)
  · unfold swF
    by_cases e : x ∈ L
    · rw [if_pos e]
    · rw [if_neg e]
      rw [g.now] at h2
      exact stF_n (fun h => h3 ((g.h x).2 h)) (fun h => h4 ((g.d x).2 ⟨h, fun h' => e ((hL x).2 h')⟩)) ⟨h1, h2⟩
  · rw [g.now] at h
    unfold swF
    rw [if_neg (fun h' => h (w.lo 66 x ((hL x).1 h')))]
    exact stF_z w h

/-- What a step does. -/
inductive Ev (b : Bo) (s : Stp) : Prop
  | not (h : doR b s = false) (e : doB b s = b)
  | made (h : doR b s = true) (k : s.k = 1 ∨ s.k = 2) (g : Sb b (doB b s)) (kb : Kb b (doB b s))
  | goes (h : doR b s = true) (k : s.k ≠ 1 ∧ s.k ≠ 2 ∧ s.k ≠ 7 ∧ s.k ≠ 8) (g : Gb b (doB b s)) (kb : Kb b (doB b s))
  | begins (h : doR b s = true) (k : s.k = 7) (g : Gb b (doB b s)) (hb : (doB b s).begun = true) (hx : ∀ x, x ∈ dyingL b ↔ x ∈ (doB b s).sets 66)
  | ends (h : doR b s = true) (k : s.k = 8) (g : Eb b (doB b s)) (hb : b.begun = true) (hb' : (doB b s).begun = false)
theorem ev_any {b : Bo} (w : Wf b) (j : Jb b) (s : Stp) : Jb (doB b s) ∧ Ev b s := by
  obtain ⟨k, o, e, l⟩ := s
  by_cases k1 : k = 1
  · subst k1
    have eB : doB b ⟨1, o, e, l⟩ = sealB b o := rfl
    have eR : doR b ⟨1, o, e, l⟩ = decide (sealErr b o = 0) := rfl
    by_cases he : sealErr b o = 0
    · have r := j.sealS w he
      exact ⟨by rw [eB]; exact r.1, .made (by rw [eR]; simp [he]) (Or.inl rfl) (by rw [eB]; exact r.2.1) (by rw [eB]; exact r.2.2)⟩
    · have e2 : doB b ⟨1, o, e, l⟩ = b := by rw [eB]; unfold sealB; rw [if_neg he]
      exact ⟨by rw [e2]; exact j, .not (by rw [eR]; simp [he]) e2⟩
  by_cases k2 : k = 2
  · subst k2
    have eB : doB b ⟨2, o, e, l⟩ = innB b o := rfl
    have eR : doR b ⟨2, o, e, l⟩ = decide (innErr b o = 0) := rfl
    by_cases he : innErr b o = 0
    · have r := j.innS w he
      exact ⟨by rw [eB]; exact r.1, .made (by rw [eR]; simp [he]) (Or.inr rfl) (by rw [eB]; exact r.2.1) (by rw [eB]; exact r.2.2)⟩
    · have e2 : doB b ⟨2, o, e, l⟩ = b := by rw [eB]; unfold innB; rw [if_neg he]
      exact ⟨by rw [e2]; exact j, .not (by rw [eR]; simp [he]) e2⟩
  by_cases k3 : k = 3
  · subst k3
    have eB : doB b ⟨3, o, e, l⟩ = joinB b o (ofE ⟨3, o, e, l⟩ b.now) := rfl
    have eR : doR b ⟨3, o, e, l⟩ = decide (joinErr b o (ofE ⟨3, o, e, l⟩ b.now) = 0) := rfl
    generalize ofE ⟨3, o, e, l⟩ b.now = e' at *
    by_cases he : joinErr b o e' = 0
    · have r := j.joinS he
      exact ⟨by rw [eB]; exact r.1, .goes (by rw [eR]; simp [he]) (by show (3 : Int) ≠ 1 ∧ (3 : Int) ≠ 2 ∧ (3 : Int) ≠ 7 ∧ (3 : Int) ≠ 8; omega) (by rw [eB]; exact r.2.1) (by rw [eB]; exact r.2.2)⟩
    · have e2 : doB b ⟨3, o, e, l⟩ = b := by rw [eB]; unfold joinB; rw [if_neg he]
      exact ⟨by rw [e2]; exact j, .not (by rw [eR]; simp [he]) e2⟩
  by_cases k4 : k = 4
  · subst k4
    have eB : doB b ⟨4, o, e, l⟩ = relB b o (ofE ⟨4, o, e, l⟩ b.now) := rfl
    have eR : doR b ⟨4, o, e, l⟩ = decide (relErr b o (ofE ⟨4, o, e, l⟩ b.now) = 0) := rfl
    generalize ofE ⟨4, o, e, l⟩ b.now = e' at *
    by_cases he : relErr b o e' = 0
    · have r := j.relS he
      exact ⟨by rw [eB]; exact r.1, .goes (by rw [eR]; simp [he]) (by show (4 : Int) ≠ 1 ∧ (4 : Int) ≠ 2 ∧ (4 : Int) ≠ 7 ∧ (4 : Int) ≠ 8; omega) (by rw [eB]; exact r.2.1) (by rw [eB]; exact r.2.2)⟩
    · have e2 : doB b ⟨4, o, e, l⟩ = b := by rw [eB]; unfold relB; rw [if_neg he]
      exact ⟨by rw [e2]; exact j, .not (by rw [eR]; simp [he]) e2⟩
  by_cases k5 : k = 5
  · subst k5
    have eB : doB b ⟨5, o, e, l⟩ = doneB b o := rfl
    have eR : doR b ⟨5, o, e, l⟩ = decide (doneErr b o = 0) := rfl
    by_cases he : doneErr b o = 0
    · have r := j.doneS he
      exact ⟨by rw [eB]; exact r.1, .goes (by rw [eR]; simp [he]) (by show (5 : Int) ≠ 1 ∧ (5 : Int) ≠ 2 ∧ (5 : Int) ≠ 7 ∧ (5 : Int) ≠ 8; omega) (by rw [eB]; exact r.2.1) (by rw [eB]; exact r.2.2)⟩
    · have e2 : doB b ⟨5, o, e, l⟩ = b := by rw [eB]; unfold doneB; rw [if_neg he]
      exact ⟨by rw [e2]; exact j, .not (by rw [eR]; simp [he]) e2⟩
  by_cases k6 : k = 6
  · subst k6
    have eB : doB b ⟨6, o, e, l⟩ = dropB b o := rfl
    have eR : doR b ⟨6, o, e, l⟩ = decide (0 < dropN b o) := rfl
    by_cases he : 0 < dropN b o
    · have hm0 : may o = true := by
        unfold dropN at he
        by_cases h : may o = false
        · rw [if_pos h] at he; omega
        · simpa using h
      have r := j.dropS hm0
      exact ⟨by rw [eB]; exact r.1, .goes (by rw [eR]; simp [he]) (by show (6 : Int) ≠ 1 ∧ (6 : Int) ≠ 2 ∧ (6 : Int) ≠ 7 ∧ (6 : Int) ≠ 8; omega) (by rw [eB]; exact r.2.1) (by rw [eB]; exact r.2.2)⟩
    · have e2 : doB b ⟨6, o, e, l⟩ = b := by rw [eB]; exact drop_none he
      exact ⟨by rw [e2]; exact j, .not (by rw [eR]; simp [he]) e2⟩
  by_cases k7 : k = 7
  · subst k7
    have eB : doB b ⟨7, o, e, l⟩ = beginB b := rfl
    have eR : doR b ⟨7, o, e, l⟩ = decide (beginErr b = 0) := rfl
    cases hb : b.begun with
    | false =>
      have r := j.beginS hb
      exact ⟨by rw [eB]; exact r.1, .begins (by rw [eR]; simp [beginErr, hb]) rfl (by rw [eB]; exact r.2.1) (by rw [eB]; exact r.2.2.1) (fun x => by rw [eB]; exact (r.2.2.2 x).symm)⟩
    | true =>
      have e2 : doB b ⟨7, o, e, l⟩ = b := by rw [eB]; unfold beginB; rw [if_pos hb]
      exact ⟨by rw [e2]; exact j, .not (by rw [eR]; simp [beginErr, hb]) e2⟩
  by_cases k8 : k = 8
  · subst k8
    have eB : doB b ⟨8, o, e, l⟩ = endB b := rfl
    have eR : doR b ⟨8, o, e, l⟩ = decide (endErr b = 0) := rfl
    cases hb : b.begun with
    | true =>
      have r := j.endS hb
      exact ⟨by rw [eB]; exact r.1, .ends (by rw [eR]; simp [endErr, hb]) rfl (by rw [eB]; exact r.2.1) hb (by rw [eB]; exact r.2.2)⟩
    | false =>
      have e2 : doB b ⟨8, o, e, l⟩ = b := by rw [eB]; unfold endB; rw [if_neg (by simp [hb])]
      exact ⟨by rw [e2]; exact j, .not (by rw [eR]; simp [endErr, hb]) e2⟩
  · have e2 : doB b ⟨k, o, e, l⟩ = b := by unfold doB; dsimp only; rw [if_neg k1, if_neg k2, if_neg k3, if_neg k4, if_neg k5, if_neg k6, if_neg k7, if_neg k8]
    have eR : doR b ⟨k, o, e, l⟩ = false := by unfold doR; dsimp only; rw [if_neg k1, if_neg k2, if_neg k3, if_neg k4, if_neg k5, if_neg k6, if_neg k7, if_neg k8]
    exact ⟨by rw [e2]; exact j, .not eR e2⟩
end Go.Proofs.Ytimefcmemklhpaa.E
