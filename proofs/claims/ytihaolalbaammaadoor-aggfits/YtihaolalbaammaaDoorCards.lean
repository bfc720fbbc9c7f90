/-
  DERIVED. GIVEN WITH THE SEED: THE CARDS: each row of YtihaolalbaammaaDoorRows.lean that lists a variable, with what it lists TIED to the program's text (the seventh form; the later family's looks); each row that meets fmt, with fmt's text TOLD by the authors' own Lean function (tested against real Go, not proved from fmt's source: count such statements apart). THE CARD IS WHAT COUNTS. Prove the row's statement (the work); the ties are given (YtihaolalbaammaaDoorTie.lean); close each card by the builder's one call (the guide's Derived/Test/ToyasCard.lean, 'card_holds'). Laid BY PROGRAM, IN A SANDBOX (cutbox-door.mjs). By AI agents, Wed Nov 11 2026. No macro, syntax, notation, axiom, sorry.
-/
import Derived.Test.YtihaolalbaammaaDoorRows
import GoSem.ClaimSeven
namespace Go.Proofs.YtihaolalbaammaaDoor
namespace Rows

/-- THE TIED CARD OF 'spatelaw3.AggFits'. -/
def aggFitsCard : Claim7 := { stood := { row := aggFitsRow, standIns := [], harness := (true, "9181f4669c41ac671393d5fccf3d0f421db237769c437a06faaf48656630b4f9"), looks := true }, kinds := [], alts := [], laidByText := true, laidKinds := [.handle], laidTests := true, laidLooks := .later }
def AggFitsCardSaid : Prop := Claim7.holds Tryd.pinned (.plain (OpenSpec.ofChange aggFitsSpec)) aggFitsCard

/-- THE SECOND FORM's CARD OF 'spatelaw3.AggFits'. -/
def aggFitsUptoCard : Claim7 := { stood := { row := aggFitsUptoRow, standIns := [], harness := (true, "9181f4669c41ac671393d5fccf3d0f421db237769c437a06faaf48656630b4f9"), looks := true }, kinds := [], alts := [], laidByText := true, laidKinds := [.handle], laidTests := true, laidLooks := .later }
def AggFitsUptoCardSaid : Prop := Claim7.holds Tryd.pinned (.plain (OpenSpec.upto aggFitsSpec)) aggFitsUptoCard
end Rows
end Go.Proofs.YtihaolalbaammaaDoor
