/-
  DERIVED. GIVEN WITH THE SEED: THE CARDS: each row of YtcjadgnefojjgaaDoorRows.lean that lists a variable, with what it lists TIED to the program's text (the seventh form; the later family's looks); each row that meets fmt, with fmt's text TOLD by the authors' own Lean function (tested against real Go, not proved from fmt's source: count such statements apart). THE CARD IS WHAT COUNTS. Prove the row's statement (the work); the ties are given (YtcjadgnefojjgaaDoorTie.lean); close each card by the builder's one call (the guide's Derived/Test/ToyasCard.lean, 'card_holds'). Laid BY PROGRAM, IN A SANDBOX (cutbox-door.mjs). By AI agents, Wed Nov 11 2026. No macro, syntax, notation, axiom, sorry.
-/
import Derived.Test.YtcjadgnefojjgaaDoorRows
import GoSem.ClaimSeven
namespace Go.Proofs.YtcjadgnefojjgaaDoor
namespace Rows

/-- THE TIED CARD OF 'spatelaw7.ShardNames'. -/
def shardNamesCard : Claim7 := { stood := { row := shardNamesRow, standIns := [], harness := (true, "dd22fa38f50674327c9c3cd869bbbf414c72e3a27e04a85e7669e3a8d24538f5"), looks := false }, kinds := [], alts := [], laidByText := true, laidKinds := [.data, .pinned], laidTests := true, laidLooks := .later }
def ShardNamesCardSaid : Prop := Claim7.holds Tryd.pinned (.plain (OpenSpec.ofChange shardNamesSpec)) shardNamesCard

/-- THE TIED CARD OF 'spatelaw7.ShardEdges'. -/
def shardEdgesCard : Claim7 := { stood := { row := shardEdgesRow, standIns := [], harness := (true, "dd22fa38f50674327c9c3cd869bbbf414c72e3a27e04a85e7669e3a8d24538f5"), looks := false }, kinds := [], alts := [], laidByText := true, laidKinds := [.data, .pinned], laidTests := true, laidLooks := .later }
def ShardEdgesCardSaid : Prop := Claim7.holds Tryd.pinned (.plain (OpenSpec.ofChange shardEdgesSpec)) shardEdgesCard

/-- THE SECOND FORM's CARD OF 'spatelaw7.ShardNames'. -/
def shardNamesUptoCard : Claim7 := { stood := { row := shardNamesUptoRow, standIns := [], harness := (true, "dd22fa38f50674327c9c3cd869bbbf414c72e3a27e04a85e7669e3a8d24538f5"), looks := false }, kinds := [], alts := [], laidByText := true, laidKinds := [.data, .pinned], laidTests := true, laidLooks := .later }
def ShardNamesUptoCardSaid : Prop := Claim7.holds Tryd.pinned (.plain (OpenSpec.upto shardNamesSpec)) shardNamesUptoCard

/-- THE SECOND FORM's CARD OF 'spatelaw7.ShardEdges'. -/
def shardEdgesUptoCard : Claim7 := { stood := { row := shardEdgesUptoRow, standIns := [], harness := (true, "dd22fa38f50674327c9c3cd869bbbf414c72e3a27e04a85e7669e3a8d24538f5"), looks := false }, kinds := [], alts := [], laidByText := true, laidKinds := [.data, .pinned], laidTests := true, laidLooks := .later }
def ShardEdgesUptoCardSaid : Prop := Claim7.holds Tryd.pinned (.plain (OpenSpec.upto shardEdgesSpec)) shardEdgesUptoCard
end Rows
end Go.Proofs.YtcjadgnefojjgaaDoor
