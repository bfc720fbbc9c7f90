/- agg.Mul: walks. -/
import Derived.Test.YtmfkccdlblebjabANum
import Derived.Laws.Pointers
namespace Go.Proofs.Ytmfkccdlblebjab
open Go.RowKit

set_option maxHeartbeats 400000 in
theorem mul_ok (a b : Int) (ha : fits a) (hb : fits b) (h : fits (a * b)) (w : World) : Calls Try.prog 14 #[.int .i64 a, .int .i64 b] w fun e w' => e = .returned (.tuple #[.int .i64 (a * b), .nilIface]) ∧ Fr w w' (fun _ => False) := by
  have hw := wrap64_fits h
  go_enter Try.func14, Try.ntmps14
  go_wp2_with (first | (go_at_call 24; refine (times_any a b ha hb _).mono ?_; rintro e w1 ⟨rfl, hf1⟩; unfold wideV) | (go_at_call 25; refine (widen_any (a * b) h _).mono ?_; rintro e w2 ⟨rfl, hf2⟩; unfold wideV))
  go_ret2
  exact ⟨rfl, hf1.trans hf2⟩
set_option maxHeartbeats 400000 in
theorem mul_over (a b : Int) (ha : fits a) (hb : fits b) (h : ¬ fits (a * b)) (w : World) : Calls Try.prog 14 #[.int .i64 a, .int .i64 b] w fun e w' => ∃ w1, e = .returned (.tuple #[.int .i64 0, overV w1.heap.size]) ∧ Fr w w1 (fun _ => False) ∧ w' = w1.alloc (overB 42 a b) := by
  have hw := wrap64_bd (a * b)
  have hne : ¬ (hi64 (a * b) = hi64 (wrap64 (a * b)) ∧ lo64 (a * b) = lo64 (wrap64 (a * b))) := by
    intro ⟨h1, h2⟩
    have := wide_ext h1 h2
    rw [← this] at hw
    exact h hw
  go_enter Try.func14, Try.ntmps14
  go_wp2_with (first | (go_at_call 24; refine (times_any a b ha hb _).mono ?_; rintro e w1 ⟨rfl, hf1⟩; unfold wideV) | (go_at_call 25; refine (widen_any (wrap64 (a * b)) hw _).mono ?_; rintro e w2 ⟨rfl, hf2⟩; unfold wideV))
  all_goals (go_ret2; exact ⟨w2, rfl, hf1.trans hf2, rfl⟩)
end Go.Proofs.Ytmfkccdlblebjab
