/- The law PaneChecks: its walk. -/
import Derived.Test.YtfdkinghcalhfaaPRef
namespace Go.Proofs.Ytfdkinghcalhfaa
open Go.RowKit

theorem chk_both (s d l : Int) : ∃ r : Int, (∀ w : World, Calls Try.prog 10 #[.agg #[.int .i64 s, .int .i64 d, .int .i64 l]] w fun e w' => e = .returned (.int .i64 r) ∧ Fr w w' (fun _ => False)) ∧
    (∀ w : World, Calls Try.prog 11 #[.agg #[.int .i64 s, .int .i64 d, .int .i64 l]] w fun e w' => e = .returned (.int .i64 r) ∧ Fr w w' (fun _ => False)) := by
  by_cases h : OkV s d l
  · exact ⟨0, fun w => check_ok h w, fun w => refCheck_ok h w⟩
  · exact ⟨23, fun w => check_bad h w, fun w => refCheck_bad h w⟩

set_option maxHeartbeats 1000000 in
theorem paneChecks_walk (s d l : Int) (_ : fits s) (_ : fits d) (_ : fits l) (w : World) : Calls Try.prog 4 #[.agg #[.int .i64 s, .int .i64 d, .int .i64 l]] w fun e w' => e = .returned (.bool true) ∧ Fr w w' (fun _ => False) := by
  obtain ⟨r, h1, h2⟩ := chk_both s d l
  have H1 := hid h1
  have H2 := hid h2
  have HH := hid (fun W : World => head_any W)
  clear h1 h2
  have HA := hid (VF.new w s d l)
  go_enter Try.func4, Try.ntmps4
  go_wp2_with fail
  first
    | go_region_held3 (fun W' => Hid (VF w s d l W') ∧ W'.cell? ⟨w.heap.size, 0, none⟩ = some (.int .i64 s) ∧ W'.cell? ⟨w.heap.size, 1, none⟩ = some (.int .i64 d) ∧ W'.cell? ⟨w.heap.size, 2, none⟩ = some (.int .i64 l))
        ((refine (fun h => ⟨h, h.vw.cells⟩ : VF w s d l _ → _) ?_; repeat (first | exact HA.out | apply VF.drew | apply VF.alloc)))
        (first
          | (go_at_call 10; refine (H1.out _).mono ?_; rintro e v1 ⟨rfl, hf⟩; have HA := hid (VF.step (by repeat (first | exact HA.out | apply VF.drew | apply VF.alloc)) hf); clear hf)
          | (go_at_call 11; refine (H2.out _).mono ?_; rintro e v1 ⟨rfl, hf⟩; have HA := hid (VF.step (by repeat (first | exact HA.out | apply VF.drew | apply VF.alloc)) hf); clear hf)
          | (go_at_call 9; refine (HH.out _).mono ?_; rintro e v1 ⟨rfl, hf⟩; have HA := hid (VF.step (by repeat (first | exact HA.out | apply VF.drew | apply VF.alloc)) hf); clear hf))
    | fail
  all_goals (go_wp2_with fail)
  all_goals go_ret
  all_goals exact ⟨rfl, HA.out.fr⟩
end Go.Proofs.Ytfdkinghcalhfaa
