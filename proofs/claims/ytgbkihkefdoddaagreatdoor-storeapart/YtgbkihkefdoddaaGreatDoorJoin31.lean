/- A world in which unicode/utf8's two tables hold what the program's text lays in them. -/
import Derived.Test.YtgbkihkefdoddaaGreatDoorCards
import Derived.Test.YtgbkihkefdoddaaGreatDoorTie
import Derived.WalkKit
import Derived.ProofKit
import Derived.OpenShut
import Derived.Deep.DeepHandedRow
import Derived.Lib.LaidTab
namespace Go.Proofs.YtgbkihkefdoddaaGreatDoor.S
open Go.ChangeShapes Go.WideShapes Go.ChangeAt Go.RowKit

theorem lawOwn : ownKnob Tryz.prog.godebug = none := by kernel_rfl
def rangesL : List Nat := [128, 191, 160, 191, 128, 159, 144, 191, 128, 143, 0, 0, 0, 0, 0, 0, 0, 0, 0, 0, 0, 0, 0, 0, 0, 0, 0, 0, 0, 0, 0, 0]
def u8s (l : List Nat) : Array Value := (l.map (fun n : Nat => Value.int .u8 (n : Int))).toArray
/-- The settled world, the tables (blocks 1 and 2) laid. -/
noncomputable def laidWorld (os : Os) : World :=
  let w0 := World.holding Tryz.prog os ⟨#[], #[], []⟩
  let h1 := w0.heap.modify 1 (fun
      | .cells _ t frozen => .cells (u8s Pinned.utf8FirstZ) t frozen
      | o => o)
  { w0 with heap := h1.modify 2 (fun
      | .cells _ t frozen => .cells (u8s rangesL) t frozen
      | o => o) }
end Go.Proofs.YtgbkihkefdoddaaGreatDoor.S
