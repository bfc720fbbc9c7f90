/- known() is true; within: walks. -/
import Derived.Test.YtcmniejffpoinabCAll
import Derived.Test.YtcmniejffpoinabCPut
import Derived.Test.YtcmniejffpoinabCAt
namespace Go.Proofs.Ytcmniejffpoinab
open Go.RowKit

theorem within_any (a n : Int) (hn : 0 < n) (hb : n ≤ 1000000) (w : World) : Calls Try.prog 6 #[.int .i64 a, .int .i64 n] w fun e w' => e = .returned (.int .i64 (a % n)) ∧ w' = w := by
  have h1 : -n < a.tmod n := Int.lt_tmod_of_pos a hn
  have h2 : a.tmod n < n := Int.tmod_lt_of_pos a hn
  have h3 : ¬ n = 0 := by omega
  have h5 : (n == 0) = false := by simpa using h3
  have h6 : (n == -1) = false := by simp; omega
  have h7 : ¬ n = -1 := by omega
  have h4 : a % n = if a.tmod n < 0 then a.tmod n + n else a.tmod n := by
    have hq := Int.tmod_add_mul_tdiv a n
    generalize a.tmod n = m at *
    generalize a.tdiv n = q at *
    rw [← hq, Int.add_mul_emod_self_left]
    by_cases hm : m < 0
    · rw [if_pos hm, ← Int.add_emod_right]
      exact Int.emod_eq_of_lt (by omega) (by omega)
    · rw [if_neg hm]
      exact Int.emod_eq_of_lt (by omega) h2
  rw [h4]
  clear h4
  generalize hm : a.tmod n = m at *
  by_cases hlt : m < 0
  · rw [if_pos hlt]
    go_enter Try.func6, Try.ntmps6
    go_wp2_with fail
    go_ret
    exact ⟨rfl, rfl⟩
  · rw [if_neg hlt]
    go_enter Try.func6, Try.ntmps6
    go_wp2_with fail
    go_ret
    exact ⟨rfl, rfl⟩

/-- A sequence is not nil. -/
theorem seq_nil (W : World) (N : Nat) : (binOp .eql 36 (.func (.func 20) #[] #[.pointer (some ⟨N, 0, none⟩)]) .nilFunc).run Try.prog W = .ok (.bool false) W := by kernel_rfl
theorem known_put : putN [] 3 = 1 ∧ wrong [] 3 = 0 ∧ putL [] 3 7 = [⟨3, true, 7⟩] ∧ atL [⟨3, true, 7⟩] 4 = ⟨3, true, 7⟩ := by decide

set_option maxHeartbeats 1000000 in
set_option maxRecDepth 100000 in
theorem known_any (w : World) : Calls Try.prog 4 #[] w fun e w' => e = .returned (.bool true) ∧ Fr w w' (fun _ => False) := by
  have hsn := seq_nil
  go_enter Try.func4, Try.ntmps4
  go_wp2_with fail
  refine (new_any _).mono ?_
  rintro e w1 ⟨rfl, hC1, hf1, hs1⟩
  have HC1 := hid (hC1 w.heap.size)
  have HF1 := hid hf1
  clear hC1 hf1
  go_wp2_with fail
  refine (all_any _ HC1.out).mono ?_
  rintro e w2 ⟨N, rfl, _, _, hf2⟩
  have HC2 := hid (HC1.out.step hf2)
  have HF2 := hid (HF1.out.trans hf2)
  have hs2 := hf2.size
  clear hf2
  go_wp2_with fail
  refine (put_any 3 7 _ HC2.out (by unfold fits; decide) (by decide) (by omega)).mono ?_
  rintro e w3 ⟨rfl, v', hC3, hf3, _⟩
  rw [known_put.1, known_put.2.1]
  rw [known_put.2.2.1] at hC3
  have HC3 := hid hC3
  have HF3 := hid (HF2.out.trans2 hf3 (fun k hk h => by rcases h with h | h; omega; simp [Value.ownBlock] at h))
  clear hC3 hf3
  go_wp2_with fail
  refine (at_any 4 _ HC3.out).mono ?_
  rintro e w4 ⟨rfl, hf4⟩
  rw [known_put.2.2.2]
  have HC4 := hid (HC3.out.step hf4)
  have HF4 := hid (HF3.out.trans hf4)
  clear hf4
  go_wp2_with fail
  refine (len_any _ HC4.out).mono ?_
  rintro e w5 ⟨rfl, rfl⟩
  go_wp2_with fail
  go_ret
  exact ⟨rfl, HF4.out⟩
end Go.Proofs.Ytcmniejffpoinab
