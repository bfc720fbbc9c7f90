/- oper: slices.SortFunc of no cells. -/
import Derived.Test.YtbhhpkbiflolfaaVSort
namespace Go.Proofs.Ytbhhpkbiflolfaa.V
open Go.RowKit Go.Shelf Go.Sort Go.Lib

set_option maxHeartbeats 2000000 in
theorem insertK_none (p : Option Addr) (cap : Nat) (fv : Value) (w : World) : Calls Try.prog 94 #[.slice p 0 cap, .int .i64 0, .int .i64 0, fv] w fun e w' => e = .returned (.tuple #[]) ∧ w' = w := by
  go_enter Try.func94, Try.ntmps94
  go_wp2_with fail
  refine wp_loop_rounds 1 ?_
  rw [rounds_succ]
  go_wp2_with fail
  go_end0
  exact ⟨rfl, rfl⟩
set_option maxHeartbeats 2000000 in
theorem pdqK_none (p : Option Addr) (cap : Nat) (lim : Int) (fv : Value) (w : World) : Calls Try.prog 84 #[.slice p 0 cap, .int .i64 0, .int .i64 0, .int .i64 lim, fv] w fun e w' => e = .returned (.tuple #[]) ∧ w' = w := by
  go_enter Try.func84, Try.ntmps84
  go_wp2_with fail
  refine wp_loop_rounds 1 ?_
  rw [rounds_succ]
  go_wp2_with (go_at_call 94; refine (insertK_none _ _ _ _).mono ?_; rintro e w' ⟨rfl, rfl⟩)
  (try simp only [Exit.inBlock, Exit.then]); refine bodyPost_ret (results_none rfl _ _ _) rfl ?_
  exact ⟨rfl, rfl⟩
theorem len_none (W : World) : Calls Try.prog 85 #[.int .u64 0] W fun e w' => e = .returned (.int .i64 (Lib.bitLen 0 : Nat)) ∧ w' = W := by
  have h := Any.bits_Len (SlLaysF0.n15.bits { Try.sortK with }) 0 W (by omega) (by omega)
  exact h
set_option maxHeartbeats 2000000 in
theorem sortK_none (p : Option Addr) (cap : Nat) (fv : Value) (w : World) : Calls Try.prog 60 #[.slice p 0 cap, fv] w fun e w' => e = .returned (.tuple #[]) ∧ w' = w := by
  go_enter Try.func60, Try.ntmps60
  go_wp2_with (first | (go_at_call 85; refine (len_none _).mono ?_; rintro e w' ⟨rfl, rfl⟩) | (go_at_call 84; refine (pdqK_none _ _ _ _ _).mono ?_; rintro e w' ⟨rfl, rfl⟩))
  go_end0
  exact ⟨rfl, rfl⟩
end Go.Proofs.Ytbhhpkbiflolfaa.V
