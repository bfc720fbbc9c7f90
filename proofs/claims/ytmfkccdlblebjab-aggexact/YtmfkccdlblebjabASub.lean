/- agg.Sub: walks. -/
import Derived.Test.YtmfkccdlblebjabAMul
namespace Go.Proofs.Ytmfkccdlblebjab
open Go.RowKit

theorem sub_ok (a b : Int) (h : fits (a - b)) (w : World) : Calls Try.prog 13 #[.int .i64 a, .int .i64 b] w fun e w' => e = .returned (.tuple #[.int .i64 (a - b), .nilIface]) ∧ w' = w := by
  obtain ⟨h1, h2⟩ := h
  by_cases hz : 0 < b
  · have hlt : a - b < a := by omega
    go_enter Try.func13, Try.ntmps13
    go_wp2
    go_ret2
    exact ⟨rfl, rfl⟩
  · have hlt : ¬ a - b < a := by omega
    go_enter Try.func13, Try.ntmps13
    go_wp2
    go_ret2
    exact ⟨rfl, rfl⟩
theorem sub_over (a b : Int) (ha : fits a) (hb : fits b) (h : ¬ fits (a - b)) (w : World) : Calls Try.prog 13 #[.int .i64 a, .int .i64 b] w fun e w' => e = .returned (.tuple #[.int .i64 0, overV w.heap.size]) ∧ w' = w.alloc (overB 45 a b) := by
  unfold fits at ha hb h
  by_cases hz : 0 < b
  · have hlt : ¬ wrap64 (a - b) < a := by unfold wrap64; omega
    go_enter Try.func13, Try.ntmps13
    go_wp2
    go_ret2
    exact ⟨rfl, rfl⟩
  · have hlt : wrap64 (a - b) < a := by unfold wrap64; omega
    go_enter Try.func13, Try.ntmps13
    go_wp2
    go_ret2
    exact ⟨rfl, rfl⟩
end Go.Proofs.Ytmfkccdlblebjab
