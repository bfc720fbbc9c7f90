/- The document's New, where it says no: walk. -/
import Derived.Test.YtekooeekaigmaaaEP14
namespace Go.Proofs.Ytekooeekaigmaaa.E
open Go.RowKit Go.Maps Go.MuLone

theorem rnew_err (pins : Int) (h : pins < 1 ∨ 64 < pins) (w : World) :
    Calls Try.prog 11 #[.int .i64 pins] w fun x w' => x = .returned (.tuple #[.pointer none, .int .i64 1]) ∧ w' = w := by
  by_cases h1 : pins < 1
  · go_enter Try.func11, Try.ntmps11
    go_wp2_with fail
    go_ret2
    exact ⟨rfl, rfl⟩
  · have h2 : 64 < pins := by omega
    go_enter Try.func11, Try.ntmps11
    go_wp2_with fail
    go_ret2
    exact ⟨rfl, rfl⟩
end Go.Proofs.Ytekooeekaigmaaa.E
