/- agg.Least and Most of float64: walks. -/
import Derived.Test.YtmfkccdlblebjaaFl
import Derived.Test.YtmfkccdlblebjaaAArgs
namespace Go.Proofs.Ytmfkccdlblebjaa
open Go.RowKit

/-- Floats that can be read at a slice. -/
def Fs (w : World) (v : Value) (fs : List Nat) : Prop :=
  ∃ ao cap, v = .slice ao fs.length cap ∧ fs.length ≤ 140737488355328 ∧ (fs ≠ [] → ∃ (b off : Nat), ao = some ⟨b, off, none⟩ ∧ ∀ i, i < fs.length → w.cell? ⟨b, off + i, none⟩ = some (.float .f64 (fs.getD i 0)))
theorem Fs.fr {w w' : World} {v : Value} {xs : List Nat} (h : Fs w v xs) (hf : Fr w w' (fun _ => False)) : Fs w' v xs := by
  obtain ⟨ao, cap, rfl, hlen, hcell⟩ := h
  refine ⟨ao, cap, rfl, hlen, fun hne => ?_⟩
  obtain ⟨b, off, rfl, hc⟩ := hcell hne
  refine ⟨b, off, rfl, fun i hi => ?_⟩
  have h0 := hc i hi
  rw [(fr_rules hf).1 b (off + i) (World.block_lt_of_cell? w _ h0)]
  exact h0
theorem take_getN (xs : List Nat) (k : Nat) (h : k < xs.length) : xs.take (k + 1) = xs.take k ++ [xs.getD k 0] := by
  rw [List.take_succ_eq_append_getElem h]
  simp [List.getD, h]

theorem run_ltF (x y : Nat) (w : World) : (binOp .lss 29 (.float .f64 x) (.float .f64 y)).run Try.prog w = .ok (.bool (ltF x y)) w := by kernel_rfl
theorem run_gtF (x y : Nat) (w : World) : (binOp .gtr 29 (.float .f64 x) (.float .f64 y)).run Try.prog w = .ok (.bool (gtF x y)) w := by kernel_rfl
theorem run_eqF (x y : Nat) (w : World) : (binOp .eql 29 (.float .f64 x) (.float .f64 y)).run Try.prog w = .ok (.bool (eqF x y)) w := by kernel_rfl
theorem run_neF (x y : Nat) (w : World) : (binOp .neq 29 (.float .f64 x) (.float .f64 y)).run Try.prog w = .ok (.bool (!eqF x y)) w := by kernel_rfl

theorem leastOneF_any (x y : Nat) (w : World) : Calls Try.prog 38 #[.float .f64 x, .float .f64 y] w fun e w' => e = .returned (.bool (ltF x y)) ∧ w' = w := by
  have r1 := run_ltF
  go_enter Try.func38, Try.ntmps38
  go_wp2
  go_ret
  exact ⟨rfl, rfl⟩
theorem mostOneF_any (x y : Nat) (w : World) : Calls Try.prog 39 #[.float .f64 x, .float .f64 y] w fun e w' => e = .returned (.bool (gtF x y)) ∧ w' = w := by
  have r1 := run_gtF
  go_enter Try.func39, Try.ntmps39
  go_wp2
  go_ret
  exact ⟨rfl, rfl⟩
end Go.Proofs.Ytmfkccdlblebjaa
