/- The document's Drop, Begin, End: what dies; New: walk. -/
import Derived.Test.YtekooeekaigmaaaEP11
namespace Go.Proofs.Ytekooeekaigmaaa.E
open Go.RowKit Go.Maps Go.MuLone

theorem hm_cleared {b : Bo} (j : Jb b) {k : Nat} (hk : k < 65) {x : Int} (hx : x ∈ b.sets k) : hm (clrS b k) x ↔ hm (cleared b k) x := by
  unfold hm clrS cleared
  dsimp only
  constructor
  · rintro ⟨i, hi, h | ⟨h, h0⟩⟩
    · exact ⟨i, hi, Or.inl h⟩
    · by_cases e : i = k
      · subst e
        exact absurd (by rw [h]; exact hx) (j.i1 i i hi hi (by omega))
      · exact ⟨i, hi, Or.inr ⟨by rw [upd_other _ _ e]; exact h, h0⟩⟩
  · rintro ⟨i, hi, h | ⟨h, h0⟩⟩
    · exact ⟨i, hi, Or.inl h⟩
    · by_cases e : i = k
      · subst e
        rw [upd_same] at h
        exact absurd h.symm h0
      · rw [upd_other _ _ e] at h
        exact ⟨i, hi, Or.inr ⟨h, h0⟩⟩
theorem drop_die {b : Bo} (w : Wf b) (j : Jb b) {o : Int} (w' : Wf (dropB b o)) : dropRD b (dyingL b) o = dyingL (dropB b o) := by
  cases hm0 : may o with
  | false =>
    unfold dropRD dropB
    rw [if_pos hm0, if_pos hm0]
  | true =>
    obtain ⟨o1, o2, o3⟩ := may_nat hm0
    have j' := (j.dropS hm0).1
    have eB : dropB b o = (lst b o.toNat).foldl loose (cleared b o.toNat) := by unfold dropB; rw [if_neg (by simp [hm0])]
    have eD : dropRD b (dyingL b) o = doneD (clrS b o.toNat) (dropD (clrS b o.toNat) (dyingL b) (b.sets o.toNat)) o := by unfold dropRD; rw [if_neg (by simp [hm0])]
    have eE : doneErr (clrS b o.toNat) o = if b.inn o.toNat = 0 then 44 else 0 := by unfold doneErr; rw [if_neg (by simp [hm0])]; rfl
    have g := Lg.folds (lst b o.toNat) (cleared b o.toNat)
    rw [← eB] at g
    generalize hk : o.toNat = k at *
    have ml : ∀ x, x ∈ lst b k ↔ x ∈ b.sets k ∨ (b.inn k = x ∧ x ≠ 0) := by
      intro x
      unfold lst
      rw [List.mem_append]
      by_cases h0 : b.inn k = 0
      · rw [if_pos h0]
        constructor
        · rintro (h | h)
          · exact Or.inl h
          · cases h
        · rintro (h | ⟨h, h'⟩)
          · exact Or.inl h
          · omega
      · rw [if_neg h0]
        simp only [List.mem_singleton]
        constructor
        · rintro (h | h)
          · exact Or.inl h
          · exact Or.inr ⟨h.symm, by omega⟩
        · rintro (h | ⟨h, _⟩)
          · exact Or.inl h
          · exact Or.inr h.symm
    have hg := g.dm (b := b) (upd_other _ _ (fun e => o2 e.symm)) (upd_other _ _ (fun e => o3 e.symm)) (fun x hx hsf => by
      rintro ⟨i, hi, h | ⟨h, h0⟩⟩
      · have := some_true.2 ⟨i, hi, h⟩
        rw [this] at hsf
        cases hsf
      · unfold cleared at h
        dsimp only at h
        by_cases e' : i = k
        · subst e'; rw [upd_same] at h; exact h0 h.symm
        · rw [upd_other _ _ e'] at h
          rcases (ml x).1 hx with h' | ⟨h', _⟩
          · exact j.i1 i k hi o1 (by omega) (by rw [h]; exact h')
          · exact e' (j.i2 i k hi o1 (by omega) (by omega)))
    refine die_eq w' j' ?_ (fun x => ?_)
    · rw [eD]
      unfold doneD
      split
      · exact ri_looseD (ri_dropD _ _ (ri_dying w j)) _
      · exact ri_dropD _ _ (ri_dying w j)
    · rw [hg, eD]
      have hset : (x ∈ b.sets k ∧ ¬ hm (clrS b k) x) ↔ (x ∈ b.sets k ∧ ¬ hm (cleared b k) x) := by
        constructor
        · rintro ⟨h, h'⟩; exact ⟨h, fun h2 => h' ((hm_cleared j o1 h).2 h2)⟩
        · rintro ⟨h, h'⟩; exact ⟨h, fun h2 => h' ((hm_cleared j o1 h).1 h2)⟩
      by_cases hz : b.inn k = 0
      · unfold doneD
        rw [if_neg (by rw [eE, if_pos hz]; omega), mem_dropD, mem_dying, hset]
        rw [ml]
        constructor
        · rintro (h | ⟨h, h'⟩)
          · exact Or.inl h
          · exact Or.inr ⟨Or.inl h, h'⟩
        · rintro (h | ⟨h | ⟨h, h0⟩, h'⟩)
          · exact Or.inl h
          · exact Or.inr ⟨h, h'⟩
          · omega
      · unfold doneD
        rw [hk]
        rw [if_pos (by rw [eE, if_neg hz]), mem_looseD, mem_dropD, mem_dying, hset, ml]
        show ((dm b x ∨ x ∈ b.sets k ∧ ¬ hm (cleared b k) x) ∨ (x = b.inn k ∧ ¬ hm (cleared b k) x)) ↔ _
        constructor
        · rintro ((h | ⟨h, h'⟩) | ⟨h, h'⟩)
          · exact Or.inl h
          · exact Or.inr ⟨Or.inl h, h'⟩
          · exact Or.inr ⟨Or.inr ⟨h.symm, by omega⟩, h'⟩
        · rintro (h | ⟨h | ⟨h, _⟩, h'⟩)
          · exact Or.inl (Or.inl h)
          · exact Or.inl (Or.inr ⟨h, h'⟩)
          · exact Or.inr ⟨h.symm, h'⟩
theorem dying_65 {b : Bo} (w : Wf b) (j : Jb b) (hb : b.begun = false) : dyingL b = b.sets 65 := by
  refine ri_ext (ri_dying w j) (w.ri 65) (fun x => ?_)
  rw [mem_dying]
  unfold dm
  rw [j.d hb]
  simp
theorem begin_die {b : Bo} (w : Wf b) (j : Jb b) (w' : Wf (beginB b)) : dyingL b = dyingL (beginB b) := by
  cases hb : b.begun with
  | true => unfold beginB; rw [if_pos hb]
  | false =>
    have r := j.beginS hb
    refine die_eq w' r.1 (ri_dying w j) (fun x => ?_)
    rw [mem_dying]
    constructor
    · exact r.2.1.d1 x
    · intro h
      rcases r.2.1.d2 x h with h' | h'
      · exact h'
      · exact absurd h (r.1.a x (by
          rcases r.2.1.h2 x h' with h2 | h2
          · exact h2
          · exfalso
            have : x ∈ dyingL b := by
              rw [mem_dying]
              unfold beginB at h2
              rw [if_neg (by simp [hb])] at h2
              rcases h2 with h2 | h2
              · dsimp only at h2; rw [upd_same] at h2; cases h2
              · dsimp only at h2; rw [upd_other _ _ (by omega), upd_same] at h2; exact Or.inl h2
            exact j.a x h' (mem_dying.1 this)))
theorem mem_delL {x : Int} : ∀ (l : List Int) {die : List Int}, x ∈ delL die l ↔ x ∈ die ∧ x ∉ l
  | [], die => by simp [delL]
  | e :: l, die => by
    show x ∈ delL (del e die) l ↔ _
    rw [mem_delL l, mem_del]
    simp only [List.mem_cons, not_or]
    constructor
    · rintro ⟨⟨h1, h2⟩, h3⟩; exact ⟨h1, h2, h3⟩
    · rintro ⟨h1, h2, h3⟩; exact ⟨⟨h1, h2⟩, h3⟩
theorem ri_delL : ∀ (l : List Int) {die : List Int}, Ri die → Ri (delL die l)
  | [], _, h => h
  | _ :: l, _, h => ri_delL l (ri_del h)
theorem end_die {b : Bo} (w : Wf b) (j : Jb b) (w' : Wf (endB b)) : endD b (dyingL b) = dyingL (endB b) := by
  cases hb : b.begun with
  | false => unfold endD endB; rw [if_neg (by simp [hb]), if_neg (by simp [hb])]
  | true =>
    have r := j.endS hb
    unfold endD
    rw [if_pos hb]
    refine die_eq w' r.1 (ri_delL _ (ri_dying w j)) (fun x => ?_)
    rw [mem_delL, mem_dying, r.2.1.d]
end Go.Proofs.Ytekooeekaigmaaa.E
