/- FlowPlays: told and the walk, joined. -/
import Derived.Test.YtekhpehficabmaaXPlays2
import Derived.Test.YtekhpehficabmaaXPlays4
namespace Go.Proofs.Ytekhpehficabmaa
open Go.RowKit

theorem told_any : ToldA := by
  intro w W B R box s h hv sp
  obtain ⟨kd, A, x⟩ := sp
  by_cases k1 : kd = 1
  · subst k1
    exact told_put h hv A x
  · exact told_rest h hv kd A x k1
theorem plays_walk {w : World} {v3 : Value} {rs : List Sp} (n0 n1 n2 : Int) (hs : Sps w v3 rs) : Calls Try.prog 3 #[.int .i64 n0, .int .i64 n1, .int .i64 n2, v3] w fun e w' => e = .returned (.bool true) ∧ Fr w w' (fun _ => False) := plays_of told_any n0 n1 n2 hs
end Go.Proofs.Ytekhpehficabmaa
