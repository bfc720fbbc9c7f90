/- The order in which marks are told: lists alone. -/
import Derived.Test.YtfmhdpenodmblaaQWith
namespace Go.Proofs.Ytfmhdpenodmblaa

/-- A mark of a script, told. -/
def rsF (n : Nat) (ms : List Int) (x : Rq) : List Int := riseL ms (x.s % (n : Int)).toNat (x.t.tmod 1152921504606846976)
theorem rise_comm (ms : List Int) (s t : Nat) (x y : Int) : riseL (riseL ms s x) t y = riseL (riseL ms t y) s x := by
  unfold riseL
  by_cases h : s = t
  · subst h
    simp only [List.set_set]
    by_cases hs : s < ms.length
    · simp [List.getD, hs]
      congr 1
      omega
    · rw [List.set_eq_of_length_le (by omega), List.set_eq_of_length_le (by omega)]
  · rw [List.set_comm _ _ h]
    congr 2
    · simp [List.getD, h]
    · simp [List.getD, Ne.symm h]
theorem rsF_comm (n : Nat) (ms : List Int) (x y : Rq) : rsF n (rsF n ms x) y = rsF n (rsF n ms y) x := rise_comm ..
theorem fold_swap (n : Nat) (a b : List Rq) (ms : List Int) : (a ++ b).foldl (rsF n) ms = (b ++ a).foldl (rsF n) ms :=
  List.Perm.foldl_eq' List.perm_append_comm (fun x _ y _ z => rsF_comm n z x y) ms
/-- The script from its k-th mark on, i of them, its beginning behind its end. -/
def rot (rs : List Rq) (k i : Nat) : List Rq := (List.range i).map fun j => rs.getD ((j + k) % rs.length) rq0
theorem rot_succ (rs : List Rq) (k i : Nat) : rot rs k (i + 1) = rot rs k i ++ [rs.getD ((i + k) % rs.length) rq0] := by
  unfold rot
  rw [List.range_succ, List.map_append]
  rfl
theorem rot_all {rs : List Rq} {k : Nat} (hk : k < rs.length) : rot rs k rs.length = rs.drop k ++ rs.take k := by
  apply List.ext_getElem?
  intro j
  unfold rot
  rw [List.getElem?_map]
  by_cases hj : j < rs.length
  · rw [List.getElem?_range hj]
    show some (rs.getD ((j + k) % rs.length) rq0) = _
    by_cases h1 : j + k < rs.length
    · rw [List.getElem?_append_left (by rw [List.length_drop]; omega), List.getElem?_drop, Nat.mod_eq_of_lt h1, Nat.add_comm k j]
      simp [List.getD, h1]
    · have e : (j + k) % rs.length = j + k - rs.length := by
        rw [Nat.mod_eq_sub_mod (by omega), Nat.mod_eq_of_lt (by omega)]
      rw [List.getElem?_append_right (by rw [List.length_drop]; omega), List.length_drop, List.getElem?_take_of_lt (by omega), e, show j - (rs.length - k) = j + k - rs.length by omega]
      have h2 : j + k - rs.length < rs.length := by omega
      simp [List.getD, h2]
  · rw [List.getElem?_eq_none (by simp; omega), List.getElem?_eq_none (by simp; omega)]
    rfl
theorem rot_fold {rs : List Rq} {k : Nat} (hk : k < rs.length) (n : Nat) (ms : List Int) : (rot rs k rs.length).foldl (rsF n) ms = rs.foldl (rsF n) ms := by
  rw [rot_all hk, fold_swap, List.take_append_drop]
theorem fold_take {rs : List Rq} {i : Nat} (hi : i < rs.length) (n : Nat) (ms : List Int) : (rs.take (i + 1)).foldl (rsF n) ms = rsF n ((rs.take i).foldl (rsF n) ms) (rs.getD i rq0) := by
  rw [List.take_add_one, List.foldl_append]
  simp [List.getD, hi]
theorem tmod_time (t : Int) : -1152921504606846976 ≤ t.tmod 1152921504606846976 ∧ t.tmod 1152921504606846976 ≤ 1152921504606846976 := by
  have := Int.lt_tmod_of_pos t (show 0 < (1152921504606846976 : Int) by decide)
  have := Int.tmod_lt_of_pos t (show 0 < (1152921504606846976 : Int) by decide)
  omega
/-- In a script's marks the source is there, and the time is one. -/
theorem rsF_rise {ms : List Int} {n : Nat} (hn : 1 ≤ n) (hl : ms.length = n) (x : Rq) : riseS ms (x.s % (n : Int)) (x.t.tmod 1152921504606846976) = rsF n ms x := by
  have h0 := Int.emod_nonneg x.s (show (n : Int) ≠ 0 by omega)
  have h1 := Int.emod_lt_of_pos x.s (show 0 < (n : Int) by omega)
  have e1 : hasB ms.length (x.s % (n : Int)) = true := by unfold hasB; exact decide_eq_true ⟨h0, by omega⟩
  have e2 : isT (x.t.tmod 1152921504606846976) = true := by unfold isT; exact decide_eq_true (tmod_time _)
  unfold riseS
  rw [e1, e2]
  rfl
theorem rsF_len (n : Nat) (ms : List Int) (x : Rq) : (rsF n ms x).length = ms.length := riseL_length ..
end Go.Proofs.Ytfmhdpenodmblaa
