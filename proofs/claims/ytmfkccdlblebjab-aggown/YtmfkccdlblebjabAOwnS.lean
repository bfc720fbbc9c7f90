/- What AggOwn holds in memory while it goes on. -/
import Derived.Test.YtmfkccdlblebjabAKnown
import Derived.Test.YtmfkccdlblebjabARoom
import Derived.ProofKit
import Derived.OpenShut
import Derived.Below
import Derived.WalkSmall
namespace Go.Proofs.Ytmfkccdlblebjab
open Go.ChangeShapes Go.WideShapes Go.ChangeAt Go.RowKit

theorem row_is {w : World} {N c : Nat} {xs ys : List Int} (h : RowV w N (iv (xs ++ ys))) (hf : ∀ x ∈ xs, fits x) (hl : xs.length ≤ 140737488355328) : Is w (.slice (some ⟨N, 0, none⟩) xs.length c) xs := by
  refine ⟨_, _, rfl, hl, hf, fun _ => ⟨N, 0, rfl, fun i hi => ?_⟩⟩
  rw [h.cell, Nat.zero_add, front_get _ _ _ hi]

/-- What stands in memory while AggOwn goes on. -/
structure OwnS (w : World) (v : Value) (xs : List Int) (N : Nat) (L : List (Nat × Obj)) (W : World) : Prop where
  row : RowV W N (iv (xs ++ [-77, -77, -77, -77]))
  arg : Is W v xs
  sb : SB w L W
theorem OwnS.step {w : World} {v : Value} {xs : List Int} {N : Nat} {L : List (Nat × Obj)} {W W' : World} (h : OwnS w v xs N L W) (hf : Fr W W' (fun _ => False)) : OwnS w v xs N L W' :=
  ⟨h.row.fr hf (fun h => h), h.arg.fr hf, h.sb.step hf⟩
theorem OwnS.drew {w : World} {v : Value} {xs : List Int} {N : Nat} {L : List (Nat × Obj)} {W : World} (h : OwnS w v xs N L W) : OwnS w v xs N L W.drew := h.step (Fr.refl W _).drew
theorem OwnS.drewN {w : World} {v : Value} {xs : List Int} {N : Nat} {L : List (Nat × Obj)} {W : World} (h : OwnS w v xs N L W) (n : Nat) : OwnS w v xs N L (W.drewN n) := h.step ((Fr.refl W _).drewN n)
theorem OwnS.alloc {w : World} {v : Value} {xs : List Int} {N : Nat} {L : List (Nat × Obj)} {W : World} (h : OwnS w v xs N L W) (o : Obj) : OwnS w v xs N L (W.alloc o) := h.step (alloc_fr W o _)
theorem OwnS.new {w : World} {v : Value} {xs : List Int} {N : Nat} {L : List (Nat × Obj)} {W : World} (h : OwnS w v xs N L W) (o : Obj) : OwnS w v xs N ((W.heap.size, o) :: L) (W.alloc o) :=
  ⟨(h.alloc o).row, (h.alloc o).arg, (h.alloc o).sb.more (heap_last _ _ _ rfl)⟩
theorem own_two {w : World} {v : Value} {xs : List Int} {N X Y : Nat} {a : Ag} {W : World} (h : OwnS w v xs N [(Y, agO a), (X, agO a)] W) :
    Hid (OwnS w v xs N [(Y, agO a), (X, agO a)] W) ∧ (W.cell? ⟨X, 0, none⟩ = some (.int .i64 a.c) ∧ W.cell? ⟨X, 1, none⟩ = some (.int .i64 a.s) ∧ W.cell? ⟨X, 2, none⟩ = some (.int .i64 a.lo) ∧ W.cell? ⟨X, 3, none⟩ = some (.int .i64 a.hi)) ∧ (W.cell? ⟨Y, 0, none⟩ = some (.int .i64 a.c) ∧ W.cell? ⟨Y, 1, none⟩ = some (.int .i64 a.s) ∧ W.cell? ⟨Y, 2, none⟩ = some (.int .i64 a.lo) ∧ W.cell? ⟨Y, 3, none⟩ = some (.int .i64 a.hi)) := by
  have hX : AgAt W X a := h.sb.1 (X, agO a) (by simp)
  have hY : AgAt W Y a := h.sb.1 (Y, agO a) (by simp)
  exact ⟨h, ⟨hX.cells.1, hX.cells.2.1, hX.cells.2.2.1, hX.cells.2.2.2.1⟩, hY.cells.1, hY.cells.2.1, hY.cells.2.2.1, hY.cells.2.2.2.1⟩

theorem own_one {w : World} {v : Value} {xs : List Int} {N X Y : Nat} {a : Ag} {W : World} (h : OwnS w v xs N [(Y, agO a), (X, agO a)] W) :
    Hid (OwnS w v xs N [(Y, agO a), (X, agO a)] W) ∧ (W.cell? ⟨Y, 0, none⟩ = some (.int .i64 a.c) ∧ W.cell? ⟨Y, 1, none⟩ = some (.int .i64 a.s) ∧ W.cell? ⟨Y, 2, none⟩ = some (.int .i64 a.lo) ∧ W.cell? ⟨Y, 3, none⟩ = some (.int .i64 a.hi)) := ⟨(own_two h).1, (own_two h).2.2⟩
end Go.Proofs.Ytmfkccdlblebjab
