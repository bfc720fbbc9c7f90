/- EpochSets: what the law's own sets say beside the book. Nothing of the program is used here. -/
import Derived.Test.YtimefcmemklhpaaELivesP
namespace Go.Proofs.Ytimefcmemklhpaa.E

theorem folds_sets : ∀ (l : List Int) (b : Bo) {i : Nat}, i ≠ 65 → (l.foldl loose b).sets i = b.sets i
  | [], _, _, _ => rfl
  | x :: l, b, i, hi => by rw [List.foldl_cons, folds_sets l _ hi, loose_sets b x hi]
theorem folds_inn : ∀ (l : List Int) (b : Bo), (l.foldl loose b).inn = b.inn
  | [], _ => rfl
  | x :: l, b => by rw [List.foldl_cons, folds_inn l _, loose_inn b x]
theorem folds_pins : ∀ (l : List Int) (b : Bo), (l.foldl loose b).pins = b.pins
  | [], _ => rfl
  | x :: l, b => by rw [List.foldl_cons, folds_pins l _, loose_pins b x]
theorem folds_now : ∀ (l : List Int) (b : Bo), (l.foldl loose b).now = b.now
  | [], _ => rfl
  | x :: l, b => by rw [List.foldl_cons, folds_now l _, loose_now b x]

/-- What a step leaves: owner o has l, its inner epoch is v; the others have what they had. -/
structure Ef (b b' : Bo) (o : Nat) (l : List Int) (v : Int) : Prop where
  sets : ∀ i, i < 65 → b'.sets i = upd b.sets o l i
  inn : ∀ i, i < 65 → b'.inn i = upd b.inn o v i
  pins : b'.pins = b.pins
  now : b.now ≤ b'.now ∧ b'.now ≤ b.now + 1
theorem upd_id {α : Type} (f : Nat → α) (o i : Nat) : upd f o (f o) i = f i := by
  by_cases e : i = o
  · subst e; exact upd_same _ _ _
  · exact upd_other _ _ e
theorem Ef.refl (b : Bo) (o : Nat) : Ef b b o (b.sets o) (b.inn o) := ⟨fun i _ => (upd_id _ _ _).symm, fun i _ => (upd_id _ _ _).symm, rfl, by omega, by omega⟩

section
variable {b : Bo} {s : Stp}
theorem set_seal (hn : b.now < 1099511627776) (hm : may s.o = true) (hk : s.k = 1) :
    (((b.sets s.o.toNat).length : Int) < b.pins → doR b s = true ∧ Ef b (doB b s) s.o.toNat (ins b.now (b.sets s.o.toNat)) (b.inn s.o.toNat)) ∧ (¬ ((b.sets s.o.toNat).length : Int) < b.pins → doR b s = false ∧ doB b s = b) := by
  unfold doR doB
  rw [if_pos hk, if_pos hk]
  unfold sealB
  constructor
  · intro h
    have e : sealErr b s.o = 0 := by
      unfold sealErr
      rw [if_neg (by simp [hm]), if_neg (by omega), if_neg (by omega)]
    rw [if_pos e]
    exact ⟨decide_eq_true e, fun i _ => rfl, fun i _ => (upd_id _ _ _).symm, rfl, by dsimp only; omega, by dsimp only; omega⟩
  · intro h
    have e : ¬ sealErr b s.o = 0 := by
      unfold sealErr
      rw [if_neg (by simp [hm]), if_pos (by omega)]
      decide
    rw [if_neg e]
    exact ⟨decide_eq_false e, rfl⟩
theorem set_inner (hn : b.now < 1099511627776) (hm : may s.o = true) (hk : s.k = 2) :
    (b.inn s.o.toNat = 0 → doR b s = true ∧ Ef b (doB b s) s.o.toNat (b.sets s.o.toNat) b.now) ∧ (¬ b.inn s.o.toNat = 0 → doR b s = false ∧ doB b s = b) := by
  unfold doR doB
  rw [if_neg (by omega), if_pos hk, if_neg (by omega), if_pos hk]
  unfold innB
  constructor
  · intro h
    have e : innErr b s.o = 0 := by
      unfold innErr
      rw [if_neg (by simp [hm]), if_neg (by omega), if_neg (by omega)]
    rw [if_pos e]
    exact ⟨decide_eq_true e, fun i _ => (upd_id _ _ _).symm, fun i _ => rfl, rfl, by dsimp only; omega, by dsimp only; omega⟩
  · intro h
    have e : ¬ innErr b s.o = 0 := by
      unfold innErr
      rw [if_neg (by simp [hm]), if_pos h]
      decide
    rw [if_neg e]
    exact ⟨decide_eq_false e, rfl⟩
theorem set_join (hm : may s.o = true) (hk : s.k = 3) :
    (some' b (ofE s b.now) = true → (hasB (b.sets s.o.toNat) (ofE s b.now) = true ∨ ((b.sets s.o.toNat).length : Int) < b.pins) → doR b s = true ∧ Ef b (doB b s) s.o.toNat (ins (ofE s b.now) (b.sets s.o.toNat)) (b.inn s.o.toNat)) ∧
    ((some' b (ofE s b.now) = false ∨ (hasB (b.sets s.o.toNat) (ofE s b.now) = false ∧ ¬ ((b.sets s.o.toNat).length : Int) < b.pins)) → doR b s = false ∧ doB b s = b) := by
  unfold doR doB
  rw [if_neg (by omega), if_neg (by omega), if_pos hk, if_neg (by omega), if_neg (by omega), if_pos hk]
  unfold joinB
  constructor
  · intro h1 h2
    have e : joinErr b s.o (ofE s b.now) = 0 := by
      unfold joinErr
      rw [if_neg (by simp [hm]), if_neg (by simp [h1])]
      rcases h2 with h2 | h2
      · rw [if_pos h2]
      · split
        · rfl
        · rw [if_neg (by omega)]
    rw [if_pos e]
    exact ⟨decide_eq_true e, fun i _ => rfl, fun i _ => (upd_id _ _ _).symm, rfl, by dsimp only; omega, by dsimp only; omega⟩
  · intro h
    have e : ¬ joinErr b s.o (ofE s b.now) = 0 := by
      unfold joinErr
      rw [if_neg (by simp [hm])]
      rcases h with h | ⟨h, h'⟩
      · rw [if_pos h]; decide
      · split
        · decide
        · rw [if_neg (by simp [h]), if_pos (by omega)]; decide
    rw [if_neg e]
    exact ⟨decide_eq_false e, rfl⟩
theorem set_release (hm : may s.o = true) (hk : s.k = 4) :
    (hasB (b.sets s.o.toNat) (ofE s b.now) = true → doR b s = true ∧ Ef b (doB b s) s.o.toNat (del (ofE s b.now) (b.sets s.o.toNat)) (b.inn s.o.toNat)) ∧
    (hasB (b.sets s.o.toNat) (ofE s b.now) = false → doR b s = false ∧ doB b s = b) := by
  unfold doR doB
  rw [if_neg (by omega), if_neg (by omega), if_neg (by omega), if_pos hk, if_neg (by omega), if_neg (by omega), if_neg (by omega), if_pos hk]
  unfold relB
  constructor
  · intro h
    have e : relErr b s.o (ofE s b.now) = 0 := by
      unfold relErr
      rw [if_neg (by simp [hm]), if_neg (by simp [h])]
    rw [if_pos e]
    refine ⟨decide_eq_true e, fun i hi => ?_, fun i _ => ?_, ?_, ?_⟩
    · rw [loose_sets _ _ (by omega)]
    · rw [loose_inn]; exact (upd_id _ _ _).symm
    · rw [loose_pins]
    · rw [loose_now]; constructor <;> (dsimp only; omega)
  · intro h
    have e : ¬ relErr b s.o (ofE s b.now) = 0 := by
      unfold relErr
      rw [if_neg (by simp [hm]), if_pos h]; decide
    rw [if_neg e]
    exact ⟨decide_eq_false e, rfl⟩
theorem set_done (hm : may s.o = true) (hk : s.k = 5) :
    (¬ b.inn s.o.toNat = 0 → doR b s = true ∧ Ef b (doB b s) s.o.toNat (b.sets s.o.toNat) 0) ∧ (b.inn s.o.toNat = 0 → doR b s = false ∧ doB b s = b) := by
  unfold doR doB
  rw [if_neg (by omega), if_neg (by omega), if_neg (by omega), if_neg (by omega), if_pos hk, if_neg (by omega), if_neg (by omega), if_neg (by omega), if_neg (by omega), if_pos hk]
  unfold doneB
  constructor
  · intro h
    have e : doneErr b s.o = 0 := by
      unfold doneErr
      rw [if_neg (by simp [hm]), if_neg h]
    rw [if_pos e]
    refine ⟨decide_eq_true e, fun i hi => ?_, fun i _ => rfl, ?_, ?_⟩
    · show (loose b _).sets i = _
      rw [loose_sets _ _ (by omega)]; exact (upd_id _ _ _).symm
    · show (loose b _).pins = _
      rw [loose_pins]
    · show b.now ≤ (loose b _).now ∧ (loose b _).now ≤ b.now + 1
      rw [loose_now]; omega
  · intro h
    have e : ¬ doneErr b s.o = 0 := by
      unfold doneErr
      rw [if_neg (by simp [hm]), if_pos h]; decide
    rw [if_neg e]
    exact ⟨decide_eq_false e, rfl⟩
theorem set_drop (hm : may s.o = true) (hk : s.k = 6) :
    doR b s = decide (0 < (b.sets s.o.toNat).length ∨ ¬ b.inn s.o.toNat = 0) ∧ Ef b (doB b s) s.o.toNat [] 0 := by
  unfold doR doB
  rw [if_neg (by omega), if_neg (by omega), if_neg (by omega), if_neg (by omega), if_neg (by omega), if_pos hk, if_neg (by omega), if_neg (by omega), if_neg (by omega), if_neg (by omega), if_neg (by omega), if_pos hk]
  unfold dropN dropB
  rw [if_neg (by simp [hm]), if_neg (by simp [hm])]
  refine ⟨?_, fun i hi => ?_, fun i _ => ?_, ?_, ?_⟩
  · unfold lst
    apply decide_eq_decide.2
    by_cases h : b.inn s.o.toNat = 0
    · simp [h]
    · simp [h]
  · rw [folds_sets _ _ (by omega)]; rfl
  · rw [folds_inn]; rfl
  · rw [folds_pins]; rfl
  · rw [folds_now]; show b.now ≤ b.now ∧ b.now ≤ b.now + 1; omega
theorem set_not (hm : may s.o = false) (h1 : 1 ≤ s.k) (h6 : s.k ≤ 6) : doR b s = false ∧ doB b s = b := by
  have g : ∀ n : Int, s.k ≠ n → ¬ s.k = n := fun _ h => h
  unfold doR doB sealB sealErr innB innErr joinB joinErr relB relErr doneB doneErr dropB dropN
  simp only [hm, if_true]
  by_cases k1 : s.k = 1
  · simp [k1]
  · by_cases k2 : s.k = 2
    · simp [k2]
    · by_cases k3 : s.k = 3
      · simp [k3]
      · by_cases k4 : s.k = 4
        · simp [k4]
        · by_cases k5 : s.k = 5
          · simp [k5]
          · have k6 : s.k = 6 := by omega
            simp [k6]
theorem set_rest (h : s.k < 1 ∨ 6 < s.k) (o : Nat) : Ef b (doB b s) o (b.sets o) (b.inn o) := by
  unfold doB
  rw [if_neg (by omega), if_neg (by omega), if_neg (by omega), if_neg (by omega), if_neg (by omega), if_neg (by omega)]
  split
  · unfold beginB
    split
    · exact Ef.refl b o
    · refine ⟨fun i hi => ?_, fun i _ => (upd_id _ _ _).symm, rfl, by dsimp only; omega, by dsimp only; omega⟩
      dsimp only
      rw [upd_other _ _ (by omega), upd_other _ _ (by omega)]
      exact (upd_id _ _ _).symm
  · split
    · unfold endB
      split
      · refine ⟨fun i hi => ?_, fun i _ => (upd_id _ _ _).symm, rfl, by dsimp only; omega, by dsimp only; omega⟩
        dsimp only
        rw [upd_other _ _ (by omega)]
        exact (upd_id _ _ _).symm
      · exact Ef.refl b o
    · exact Ef.refl b o
end

/-- Has one of the owners 1 to k got it? -/
def anyB (b : Bo) (n : Int) (k : Nat) : Bool := (List.range k).any (fun i => hasB (b.sets (i + 1)) n)
theorem anyB_zero (b : Bo) (n : Int) : anyB b n 0 = false := rfl
theorem anyB_succ (b : Bo) (n : Int) (k : Nat) : anyB b n (k + 1) = (anyB b n k || hasB (b.sets (k + 1)) n) := by
  unfold anyB
  rw [List.range_succ, List.any_append]
  simp
theorem anyB_all {b : Bo} (h0 : b.sets 0 = []) (n : Int) : anyB b n 64 = some' b n := by
  rw [Bool.eq_iff_iff, some_true]
  unfold anyB
  rw [List.any_eq_true]
  constructor
  · rintro ⟨i, hi, h⟩
    have := List.mem_range.1 hi
    exact ⟨i + 1, by omega, hasB_true.1 h⟩
  · rintro ⟨i, hi, h⟩
    by_cases e : i = 0
    · subst e; rw [h0] at h; cases h
    · exact ⟨i - 1, List.mem_range.2 (by omega), hasB_true.2 (by rwa [show i - 1 + 1 = i by omega])⟩

/-- What the owners 1 to k have, and the numbers G besides. -/
def Al (b : Bo) (k : Nat) (G : List Int) (L : List Int) : Prop := Ri L ∧ ∀ x, x ∈ L ↔ (∃ i, 1 ≤ i ∧ i ≤ k ∧ x ∈ lst b i) ∨ x ∈ G
theorem Al.start (b : Bo) : Al b 0 [] [] := ⟨List.Pairwise.nil, fun x => ⟨fun h => (by cases h), fun h => (by
  rcases h with ⟨i, h1, h2, _⟩ | h
  · omega
  · cases h)⟩⟩
theorem Al.add {b : Bo} {k : Nat} {G L : List Int} (h : Al b k G L) (x : Int) : Al b k (x :: G) (ins x L) := ⟨ri_ins h.1, fun y => by rw [mem_ins, h.2 y, List.mem_cons]; constructor <;> (intro h; rcases h with h | h | h <;> simp [h])⟩
theorem Al.next {b : Bo} {k : Nat} {G L : List Int} (h : Al b k G L) (hG : ∀ x, x ∈ G ↔ x ∈ lst b (k + 1)) : Al b (k + 1) [] L := ⟨h.1, fun y => by
  rw [h.2 y, hG y]
  constructor
  · rintro (⟨i, h1, h2, h3⟩ | h)
    · exact Or.inl ⟨i, h1, by omega, h3⟩
    · exact Or.inl ⟨k + 1, by omega, by omega, h⟩
  · rintro (⟨i, h1, h2, h3⟩ | h)
    · by_cases e : i = k + 1
      · subst e; exact Or.inr h3
      · exact Or.inl ⟨i, h1, by omega, h3⟩
    · cases h⟩
theorem mem_lst {b : Bo} {i : Nat} {x : Int} : x ∈ lst b i ↔ x ∈ b.sets i ∨ (¬ b.inn i = 0 ∧ x = b.inn i) := by
  unfold lst
  rw [List.mem_append]
  by_cases h : b.inn i = 0
  · simp [h]
  · simp [h]
theorem Al.all {b : Bo} {L : List Int} (h : Al b 64 [] L) (h0 : b.sets 0 = []) (h1 : b.inn 0 = 0) : L = heldL b := by
  refine ri_ext h.1 (ri_up _) (fun x => ?_)
  rw [h.2 x, mem_held]
  unfold hm
  constructor
  · rintro (⟨i, g1, g2, g3⟩ | g)
    · refine ⟨i, by omega, ?_⟩
      rcases mem_lst.1 g3 with g | ⟨g, rfl⟩
      · exact Or.inl g
      · exact Or.inr ⟨rfl, g⟩
    · cases g
  · rintro ⟨i, hi, g⟩
    by_cases e : i = 0
    · subst e
      rw [h0, h1] at g
      rcases g with g | ⟨g, g'⟩
      · cases g
      · exact absurd g.symm g'
    · refine Or.inl ⟨i, by omega, by omega, mem_lst.2 ?_⟩
      rcases g with g | ⟨g, g'⟩
      · exact Or.inl g
      · exact Or.inr ⟨by omega, g.symm⟩
theorem Al.lo {b : Bo} (w : Wf b) {k : Nat} {G L : List Int} (h : Al b k G L) (hG : ∀ x ∈ G, 1 ≤ x ∧ x < b.now) : ∀ x ∈ L, 1 ≤ x ∧ x < b.now := fun x hx => by
  rcases (h.2 x).1 hx with ⟨i, _, _, h3⟩ | h3
  · exact w.lst i x h3
  · exact hG x h3
end Go.Proofs.Ytimefcmemklhpaa.E
