/- The document's book and the program's are one: what dies. Pure. -/
import Derived.Test.YtekooeekaigmaaaEP10
namespace Go.Proofs.Ytekooeekaigmaaa.E

section
variable {w : World} {C S I base : Nat} {sv : Nat → Value} {vD vW : Value} {b : Bo} {die : List Int}
/-- The set 65 is not read. -/
theorem Rb.same {b' : Bo} (h : Rb w C S I base sv vD vW b die) (hp : b'.pins = b.pins) (hn : b'.now = b.now) (hb : b'.begun = b.begun) (hi : b'.inn = b.inn) (hs : ∀ i, i ≠ 65 → b'.sets i = b.sets i) : Rb w C S I base sv vD vW b' die := by
  refine ⟨?_, h.sc, ?_, fun i hi' => ?_, h.dO, ?_, h.lo, h.ne, ?_⟩
  · rw [hp, hn, hb]; exact h.cell
  · rw [hi]; exact h.ic
  · rw [hs i (by omega)]; exact h.so i hi'
  · rw [hs 66 (by omega)]; exact h.wO
  · rw [hs 0 (by omega), hi]; exact h.z
theorem Rl.same {w' : World} {b' : Bo} (h : Rl w w' C S I base b die) (hp : b'.pins = b.pins) (hn : b'.now = b.now) (hb : b'.begun = b.begun) (hi : b'.inn = b.inn) (hs : ∀ i, i ≠ 65 → b'.sets i = b.sets i) : Rl w w' C S I base b' die := by
  obtain ⟨⟨sv, vD, vW, h⟩, hf⟩ := h
  exact ⟨⟨sv, vD, vW, h.same hp hn hb hi hs⟩, hf⟩
end
theorem ri_looseD {b : Bo} {die : List Int} (h : Ri die) (e : Int) : Ri (looseD b die e) := by
  unfold looseD
  split
  · exact h
  · exact ri_ins h
theorem mem_looseD {b : Bo} {die : List Int} {e x : Int} : x ∈ looseD b die e ↔ x ∈ die ∨ (x = e ∧ ¬ hm b x) := by
  unfold looseD
  by_cases h : hasB (heldL b) e = true
  · rw [if_pos h]
    constructor
    · exact Or.inl
    · rintro (h' | ⟨rfl, h'⟩)
      · exact h'
      · exact absurd (mem_held.1 (hasB_true.1 h)) h'
  · rw [if_neg h, mem_ins]
    constructor
    · rintro (rfl | h')
      · exact Or.inr ⟨rfl, fun h' => h (hasB_true.2 (mem_held.2 h'))⟩
      · exact Or.inl h'
    · rintro (h' | ⟨rfl, _⟩)
      · exact Or.inr h'
      · exact Or.inl rfl
theorem ri_dropD (b : Bo) : ∀ (l : List Int) {die : List Int}, Ri die → Ri (dropD b die l)
  | [], _, h => h
  | e :: l, _, h => ri_dropD b l (ri_looseD h e)
theorem mem_dropD {b : Bo} {x : Int} : ∀ (l : List Int) {die : List Int}, x ∈ dropD b die l ↔ x ∈ die ∨ (x ∈ l ∧ ¬ hm b x)
  | [], die => by simp [dropD]
  | e :: l, die => by
    show x ∈ dropD b (looseD b die e) l ↔ _
    rw [mem_dropD l, mem_looseD]
    simp only [List.mem_cons]
    constructor
    · rintro ((h | ⟨h, h'⟩) | ⟨h, h'⟩)
      · exact Or.inl h
      · exact Or.inr ⟨Or.inl h, h'⟩
      · exact Or.inr ⟨Or.inr h, h'⟩
    · rintro (h | ⟨h | h, h'⟩)
      · exact Or.inl (Or.inl h)
      · exact Or.inl (Or.inr ⟨h, h'⟩)
      · exact Or.inr ⟨h, h'⟩
/-- Two rising lists of what is dying are one. -/
theorem die_eq {b' : Bo} {l : List Int} (w : Wf b') (j : Jb b') (hr : Ri l) (h : ∀ x, x ∈ l ↔ dm b' x) : l = dyingL b' :=
  ri_ext hr (ri_dying w j) (fun x => (h x).trans mem_dying.symm)
/-- The epochs of L were let go: what dies then. -/
theorem Lg.dm {b b1 b' : Bo} {L : List Int} (g : Lg b1 b' L) (h65 : b1.sets 65 = b.sets 65) (h66 : b1.sets 66 = b.sets 66) (hI : ∀ x ∈ L, some' b1 x = false → ¬ hm b1 x) (x : Int) : E.dm b' x ↔ E.dm b x ∨ (x ∈ L ∧ ¬ hm b1 x) := by
  unfold E.dm
  rw [g.die, g.sets 66 (by omega), h65, h66]
  have key : x ∈ L → (some' b1 x = false ↔ ¬ hm b1 x) := fun hx => ⟨hI x hx, fun h => by
    rw [Bool.eq_false_iff]
    intro ht
    obtain ⟨i, hi, hm'⟩ := some_true.1 ht
    exact h ⟨i, hi, Or.inl hm'⟩⟩
  constructor
  · rintro ((h | ⟨h, h'⟩) | h)
    · exact Or.inl (Or.inl h)
    · exact Or.inr ⟨h, (key h).1 h'⟩
    · exact Or.inl (Or.inr h)
  · rintro ((h | h) | ⟨h, h'⟩)
    · exact Or.inl (Or.inl h)
    · exact Or.inr h
    · exact Or.inl (Or.inr ⟨h, (key h).2 h'⟩)
theorem rel_die {b : Bo} (w : Wf b) (j : Jb b) {o e : Int} (w' : Wf (relB b o e)) : relD b (dyingL b) o e = dyingL (relB b o e) := by
  by_cases he : relErr b o e = 0
  · have hm0 : may o = true := by
      unfold relErr at he
      by_cases h : may o = false
      · rw [if_pos h] at he; omega
      · simpa using h
    have hs : e ∈ b.sets o.toNat := by
      unfold relErr at he
      rw [if_neg (by simp [hm0])] at he
      by_cases h : hasB (b.sets o.toNat) e = false
      · rw [if_pos h] at he; omega
      · exact hasB_true.1 (by simpa using h)
    obtain ⟨o1, o2, o3⟩ := may_nat hm0
    have j' := (j.relS he).1
    refine die_eq w' j' ?_ (fun x => ?_)
    · unfold relD
      rw [if_pos he]
      exact ri_looseD (ri_dying w j) e
    · have g := Lg.folds [e] { b with sets := upd b.sets o.toNat (del e (b.sets o.toNat)) }
      simp only [List.foldl_cons, List.foldl_nil] at g
      have eB : relB b o e = loose { b with sets := upd b.sets o.toNat (del e (b.sets o.toNat)) } e := by unfold relB; rw [if_pos he]
      rw [eB]
      rw [g.dm (b := b) (upd_other _ _ (fun e => o2 e.symm)) (upd_other _ _ (fun e => o3 e.symm)) (fun x hx hsf => by
        simp at hx
        subst hx
        rintro ⟨i, hi, h | ⟨h, h0⟩⟩
        · have := some_true.2 ⟨i, hi, h⟩
          rw [this] at hsf
          cases hsf
        · dsimp only at h
          exact j.i1 i o.toNat hi o1 (by omega) (by rw [h]; exact hs))]
      unfold relD
      rw [if_pos he, mem_looseD, mem_dying]
      simp
  · unfold relD relB
    rw [if_neg he, if_neg he]
theorem done_die {b : Bo} (w : Wf b) (j : Jb b) {o : Int} (w' : Wf (doneB b o)) : doneD b (dyingL b) o = dyingL (doneB b o) := by
  by_cases he : doneErr b o = 0
  · have hm0 : may o = true := by
      unfold doneErr at he
      by_cases h : may o = false
      · rw [if_pos h] at he; omega
      · simpa using h
    obtain ⟨o1, o2, o3⟩ := may_nat hm0
    have j' := (j.doneS he).1
    refine die_eq w' j' ?_ (fun x => ?_)
    · unfold doneD
      rw [if_pos he]
      exact ri_looseD (ri_dying w j) _
    · have g : Lg { b with inn := upd b.inn o.toNat 0 } { loose b (b.inn o.toNat) with inn := upd b.inn o.toNat 0 } [b.inn o.toNat] := by
        refine ⟨fun i hi => loose_sets b _ hi, rfl, loose_now b _, loose_begun b _, fun x => ?_⟩
        dsimp only
        rw [loose_65]
        simp only [List.mem_singleton]
        exact Iff.rfl
      have eB : doneB b o = { loose b (b.inn o.toNat) with inn := upd b.inn o.toNat 0 } := by unfold doneB; rw [if_pos he]
      rw [eB]
      rw [g.dm (b := b) rfl rfl (fun x hx hsf => by
        simp at hx
        rintro ⟨i, hi, h | ⟨h, h0⟩⟩
        · have := some_true.2 ⟨i, hi, h⟩
          rw [this] at hsf
          cases hsf
        · dsimp only at h
          by_cases e' : i = o.toNat
          · subst e'; rw [upd_same] at h; exact h0 h.symm
          · rw [upd_other _ _ e'] at h
            exact e' (j.i2 i o.toNat hi o1 (by omega) (by omega)))]
      unfold doneD
      rw [if_pos he, mem_looseD, mem_dying]
      simp
  · unfold doneD doneB
    rw [if_neg he, if_neg he]
end Go.Proofs.Ytekooeekaigmaaa.E
