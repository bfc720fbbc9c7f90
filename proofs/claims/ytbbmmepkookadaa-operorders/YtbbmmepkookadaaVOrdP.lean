/- OperOrders: marks in another order: lists alone. -/
import Derived.Test.YtbbmmepkookadaaQWith
namespace Go.Proofs.Ytbbmmepkookadaa.V

/-- Marks as a function of the source. -/
def St (n : Nat) (f : Nat → Int) : List Int := (List.range n).map f
theorem st_len (n : Nat) (f : Nat → Int) : (St n f).length = n := by simp [St]
theorem st_ext {n : Nat} {f g : Nat → Int} (h : ∀ j, j < n → f j = g j) : St n f = St n g := List.map_congr_left (fun j hj => h j (List.mem_range.1 hj))
theorem st_rep (n : Nat) : List.replicate n noM = St n (fun _ => noM) := by simp [St, List.map_const']
/-- One mark more. -/
def up1 (f : Nat → Int) (s t : Int) (j : Nat) : Int := if (j : Int) = s ∧ isT t = true then max (f j) t else f j
theorem rise_st (n : Nat) (f : Nat → Int) (s t : Int) : riseS (St n f) s t = St n (up1 f s t) := by
  unfold riseS
  rw [st_len]
  rcases hb : hasB n s && isT t with _ | _
  · rw [if_neg (by decide)]
    refine st_ext (fun j hj => ?_)
    unfold up1
    rw [if_neg]
    rintro ⟨h1, h2⟩
    have : hasB n s = true := by unfold hasB; exact decide_eq_true ⟨by omega, by omega⟩
    rw [this, h2] at hb
    cases hb
  · rw [if_pos rfl]
    have hb2 : hasB n s = true ∧ isT t = true := by simpa using hb
    have hs : 0 ≤ s ∧ s < (n : Int) := by have := hb2.1; unfold hasB at this; exact of_decide_eq_true this
    unfold riseL St
    apply List.ext_getElem
    · simp
    · intro j h1 h2
      simp at h2
      rw [List.getElem_set]
      simp only [List.getElem_map, List.getElem_range]
      unfold up1
      by_cases e : s.toNat = j
      · rw [if_pos e, if_pos ⟨by omega, hb2.2⟩]
        have : s.toNat < n := by omega
        rw [← e]
        simp [List.getD, this]
      · rw [if_neg e, if_neg (fun h => e (by omega))]
/-- The greatest mark of a source. -/
def top (qs : List Rq) (j : Nat) : Int := qs.foldl (fun a q => if (j : Int) = q.s ∧ isT q.t = true then max a q.t else a) noM
theorem top_take {qs : List Rq} {i : Nat} (hi : i < qs.length) (j : Nat) : top (qs.take (i + 1)) j = up1 (fun j => top (qs.take i) j) (qs.getD i rq0).s (qs.getD i rq0).t j := by
  unfold top up1
  rw [List.take_add_one, List.foldl_append]
  simp [List.getD, hi]
theorem top_other {qs : List Rq} {i : Nat} (hi : i < qs.length) {j : Nat} (h : (qs.getD i rq0).s ≠ (j : Int)) : top (qs.take (i + 1)) j = top (qs.take i) j := by
  rw [top_take hi]
  unfold up1
  rw [if_neg (fun h2 => h h2.1.symm)]
theorem fold_le (j : Nat) : ∀ (qs : List Rq) (a : Int), a ≤ qs.foldl (fun a q => if (j : Int) = q.s ∧ isT q.t = true then max a q.t else a) a
  | [], a => Int.le_refl _
  | q :: qs, a => by
    have h := fold_le j qs (if (j : Int) = q.s ∧ isT q.t = true then max a q.t else a)
    simp only [List.foldl_cons]
    have : a ≤ (if (j : Int) = q.s ∧ isT q.t = true then max a q.t else a) := by split <;> omega
    omega
theorem top_ge {j : Nat} : ∀ {qs : List Rq} {q : Rq} (a : Int), q ∈ qs → q.s = (j : Int) → isT q.t = true → q.t ≤ qs.foldl (fun a q => if (j : Int) = q.s ∧ isT q.t = true then max a q.t else a) a
  | p :: qs, q, a, hm, hs, ht => by
    simp only [List.foldl_cons]
    rcases List.mem_cons.1 hm with rfl | hm
    · have h := fold_le j qs (if (j : Int) = q.s ∧ isT q.t = true then max a q.t else a)
      rw [if_pos ⟨hs.symm, ht⟩] at h ⊢
      omega
    · exact top_ge _ hm hs ht
/-- The second operator's marks: the sources from n + 1 on are done, i steps of source n. -/
def mid (qs : List Rq) (n i : Nat) (j : Nat) : Int := if n + 1 ≤ j then top qs j else if j = n then top (qs.take i) j else noM
/-- The sources from n on are done. -/
def fin (qs : List Rq) (n : Nat) (j : Nat) : Int := if n ≤ j then top qs j else noM
theorem mid_zero (qs : List Rq) (n j : Nat) : mid qs n 0 j = fin qs (n + 1) j := by
  unfold mid fin
  by_cases h : n + 1 ≤ j
  · rw [if_pos h, if_pos h]
  · rw [if_neg h, if_neg h]
    split
    · rfl
    · rfl
theorem mid_all (qs : List Rq) (n i : Nat) (hi : qs.length ≤ i) (j : Nat) : mid qs n i j = fin qs n j := by
  unfold mid fin
  rw [List.take_of_length_le hi]
  by_cases h : n + 1 ≤ j
  · rw [if_pos h, if_pos (by omega)]
  · rw [if_neg h]
    by_cases h2 : j = n
    · rw [if_pos h2, if_pos (by omega)]
    · rw [if_neg h2, if_neg (by omega)]
theorem mid_step {qs : List Rq} {n i : Nat} (hi : i < qs.length) (h : (qs.getD i rq0).s = (n : Int)) (j : Nat) : up1 (mid qs n i) (n : Int) (qs.getD i rq0).t j = mid qs n (i + 1) j := by
  unfold up1
  by_cases e : j = n
  · subst e
    have e1 : mid qs j i j = top (qs.take i) j := by unfold mid; rw [if_neg (by omega), if_pos rfl]
    have e2 : mid qs j (i + 1) j = top (qs.take (i + 1)) j := by unfold mid; rw [if_neg (by omega), if_pos rfl]
    rw [e1, e2, top_take hi, h]
    rfl
  · rw [if_neg (fun h2 => e (by omega))]
    unfold mid
    rw [if_neg e, if_neg e]
theorem mid_skip {qs : List Rq} {n i : Nat} (hi : i < qs.length) (h : (qs.getD i rq0).s ≠ (n : Int)) (j : Nat) : mid qs n i j = mid qs n (i + 1) j := by
  unfold mid
  by_cases e : j = n
  · subst e; rw [top_other hi h]
  · rw [if_neg e, if_neg e]
/-- A mark that is not above the source's greatest one changes nothing. -/
theorem fin_same {qs : List Rq} {n : Nat} {t u : Int} {q : Rq} (hm : q ∈ qs) (hs : q.s = (n : Int)) (ht : isT q.t = true) (hle : t ≤ q.t) (j : Nat) (hu : u = t) : up1 (fin qs n) (n : Int) u j = fin qs n j := by
  subst hu
  unfold up1
  split
  · rename_i h
    obtain ⟨h1, _⟩ := h
    have e : j = n := by omega
    subst e
    have hg := top_ge (qs := qs) noM hm hs ht
    have e1 : fin qs j j = top qs j := by unfold fin; rw [if_pos (Nat.le_refl _)]
    rw [e1]
    have : q.t ≤ top qs j := hg
    omega
  · rfl
end Go.Proofs.Ytbbmmepkookadaa.V
