/-
  DERIVED. GIVEN WITH THE SEED: THE CARDS: each row of YtcjadgnefojjgabDoorRows.lean that lists a variable, with what it lists TIED to the program's text (the seventh form; the later family's looks); each row that meets fmt, with fmt's text TOLD by the authors' own Lean function (tested against real Go, not proved from fmt's source: count such statements apart). THE CARD IS WHAT COUNTS. Prove the row's statement (the work); the ties are given (YtcjadgnefojjgabDoorTie.lean); close each card by the builder's one call (the guide's Derived/Test/ToyasCard.lean, 'card_holds'). Laid BY PROGRAM, IN A SANDBOX (cutbox-door.mjs). By AI agents, Wed Nov 11 2026. No macro, syntax, notation, axiom, sorry.
-/
import Derived.Test.YtcjadgnefojjgabDoorRows
import GoSem.ClaimSeven
namespace Go.Proofs.YtcjadgnefojjgabDoor
namespace Rows

/-- THE TIED CARD OF 'spatelaw7.ShardFolds'. -/
def shardFoldsCard : Claim7 := { stood := { row := shardFoldsRow, standIns := [], harness := (true, "abb452235a0636bdfedb73aa15c75cf24e025a8475f49b20355e41652d89e3a5"), looks := false }, kinds := [], alts := [], laidByText := true, laidKinds := [.data, .pinned], laidTests := true, laidLooks := .later }
def ShardFoldsCardSaid : Prop := Claim7.holds Tryd.pinned (.plain (OpenSpec.ofChange shardFoldsSpec)) shardFoldsCard

/-- THE SECOND FORM's CARD OF 'spatelaw7.ShardFolds'. -/
def shardFoldsUptoCard : Claim7 := { stood := { row := shardFoldsUptoRow, standIns := [], harness := (true, "abb452235a0636bdfedb73aa15c75cf24e025a8475f49b20355e41652d89e3a5"), looks := false }, kinds := [], alts := [], laidByText := true, laidKinds := [.data, .pinned], laidTests := true, laidLooks := .later }
def ShardFoldsUptoCardSaid : Prop := Claim7.holds Tryd.pinned (.plain (OpenSpec.upto shardFoldsSpec)) shardFoldsUptoCard
end Rows
end Go.Proofs.YtcjadgnefojjgabDoor
