/-
  DERIVED. GIVEN WITH THE SEED: THE CARDS: each row of YtgbkihkefdoddaaGreatDoorRows.lean that lists a variable, with what it lists TIED to the program's text (the seventh form; the later family's looks); each row that meets fmt, with fmt's text TOLD by the authors' own Lean function (tested against real Go, not proved from fmt's source: count such statements apart). THE CARD IS WHAT COUNTS. Prove the row's statement (the work); the ties are given (YtgbkihkefdoddaaGreatDoorTie.lean); close each card by the builder's one call (the guide's Derived/Test/ToyasCard.lean, 'card_holds'). Laid BY PROGRAM, IN A SANDBOX (cutbox-door.mjs). By AI agents, Wed Nov 11 2026. No macro, syntax, notation, axiom, sorry.
-/
import Derived.Test.YtgbkihkefdoddaaGreatDoorRows
import GoSem.ClaimSeven
namespace Go.Proofs.YtgbkihkefdoddaaGreatDoor
namespace Rows

/-- THE TIED CARD OF 'spatelaw10.StoreNames'. -/
def storeNamesCard : Claim7 := { stood := { row := storeNamesRow, standIns := [], harness := (true, "eb5cef6a3d1b60cc0537e1a79d5b2075ddd5b4e4cb195fa5f527dcfb4c876477"), looks := true }, kinds := [], alts := [], laidByText := true, laidKinds := [.data, .pinned], laidTests := true, laidLooks := .later }
def StoreNamesCardSaid : Prop := Claim7.holds Tryz.pinned (.plain (OpenSpec.ofChange storeNamesSpec)) storeNamesCard

/-- THE TIED CARD OF 'spatelaw10.StorePlays'. -/
def storePlaysCard : Claim7 := { stood := { row := storePlaysRow, standIns := [], harness := (true, "eb5cef6a3d1b60cc0537e1a79d5b2075ddd5b4e4cb195fa5f527dcfb4c876477"), looks := true }, kinds := [], alts := [], laidByText := true, laidKinds := [.data, .pinned], laidTests := true, laidLooks := .later }
def StorePlaysCardSaid : Prop := Claim7.holds Tryz.pinned (.plain (OpenSpec.ofChange storePlaysSpec)) storePlaysCard

/-- THE TIED CARD OF 'spatelaw10.StoreRoutes'. -/
def storeRoutesCard : Claim7 := { stood := { row := storeRoutesRow, standIns := [], harness := (true, "eb5cef6a3d1b60cc0537e1a79d5b2075ddd5b4e4cb195fa5f527dcfb4c876477"), looks := true }, kinds := [], alts := [], laidByText := true, laidKinds := [.data, .pinned], laidTests := true, laidLooks := .later }
def StoreRoutesCardSaid : Prop := Claim7.holds Tryz.pinned (.plain (OpenSpec.ofChange storeRoutesSpec)) storeRoutesCard

/-- THE TIED CARD OF 'spatelaw10.StoreWhole'. -/
def storeWholeCard : Claim7 := { stood := { row := storeWholeRow, standIns := [], harness := (true, "eb5cef6a3d1b60cc0537e1a79d5b2075ddd5b4e4cb195fa5f527dcfb4c876477"), looks := true }, kinds := [], alts := [], laidByText := true, laidKinds := [.data, .pinned], laidTests := true, laidLooks := .later }
def StoreWholeCardSaid : Prop := Claim7.holds Tryz.pinned (.plain (OpenSpec.ofChange storeWholeSpec)) storeWholeCard

/-- THE TIED CARD OF 'spatelaw10.StoreApart'. -/
def storeApartCard : Claim7 := { stood := { row := storeApartRow, standIns := [], harness := (true, "eb5cef6a3d1b60cc0537e1a79d5b2075ddd5b4e4cb195fa5f527dcfb4c876477"), looks := true }, kinds := [], alts := [], laidByText := true, laidKinds := [.data, .pinned], laidTests := true, laidLooks := .later }
def StoreApartCardSaid : Prop := Claim7.holds Tryz.pinned (.plain (OpenSpec.ofChange storeApartSpec)) storeApartCard

/-- THE TIED CARD OF 'spatelaw10.StoreScans'. -/
def storeScansCard : Claim7 := { stood := { row := storeScansRow, standIns := [], harness := (true, "eb5cef6a3d1b60cc0537e1a79d5b2075ddd5b4e4cb195fa5f527dcfb4c876477"), looks := true }, kinds := [], alts := [], laidByText := true, laidKinds := [.data, .pinned], laidTests := true, laidLooks := .later }
def StoreScansCardSaid : Prop := Claim7.holds Tryz.pinned (.plain (OpenSpec.ofChange storeScansSpec)) storeScansCard

/-- THE SECOND FORM's CARD OF 'spatelaw10.StoreNames'. -/
def storeNamesUptoCard : Claim7 := { stood := { row := storeNamesUptoRow, standIns := [], harness := (true, "eb5cef6a3d1b60cc0537e1a79d5b2075ddd5b4e4cb195fa5f527dcfb4c876477"), looks := true }, kinds := [], alts := [], laidByText := true, laidKinds := [.data, .pinned], laidTests := true, laidLooks := .later }
def StoreNamesUptoCardSaid : Prop := Claim7.holds Tryz.pinned (.plain (OpenSpec.upto storeNamesSpec)) storeNamesUptoCard

/-- THE SECOND FORM's CARD OF 'spatelaw10.StorePlays'. -/
def storePlaysUptoCard : Claim7 := { stood := { row := storePlaysUptoRow, standIns := [], harness := (true, "eb5cef6a3d1b60cc0537e1a79d5b2075ddd5b4e4cb195fa5f527dcfb4c876477"), looks := true }, kinds := [], alts := [], laidByText := true, laidKinds := [.data, .pinned], laidTests := true, laidLooks := .later }
def StorePlaysUptoCardSaid : Prop := Claim7.holds Tryz.pinned (.plain (OpenSpec.upto storePlaysSpec)) storePlaysUptoCard

/-- THE SECOND FORM's CARD OF 'spatelaw10.StoreRoutes'. -/
def storeRoutesUptoCard : Claim7 := { stood := { row := storeRoutesUptoRow, standIns := [], harness := (true, "eb5cef6a3d1b60cc0537e1a79d5b2075ddd5b4e4cb195fa5f527dcfb4c876477"), looks := true }, kinds := [], alts := [], laidByText := true, laidKinds := [.data, .pinned], laidTests := true, laidLooks := .later }
def StoreRoutesUptoCardSaid : Prop := Claim7.holds Tryz.pinned (.plain (OpenSpec.upto storeRoutesSpec)) storeRoutesUptoCard

/-- THE SECOND FORM's CARD OF 'spatelaw10.StoreWhole'. -/
def storeWholeUptoCard : Claim7 := { stood := { row := storeWholeUptoRow, standIns := [], harness := (true, "eb5cef6a3d1b60cc0537e1a79d5b2075ddd5b4e4cb195fa5f527dcfb4c876477"), looks := true }, kinds := [], alts := [], laidByText := true, laidKinds := [.data, .pinned], laidTests := true, laidLooks := .later }
def StoreWholeUptoCardSaid : Prop := Claim7.holds Tryz.pinned (.plain (OpenSpec.upto storeWholeSpec)) storeWholeUptoCard

/-- THE SECOND FORM's CARD OF 'spatelaw10.StoreApart'. -/
def storeApartUptoCard : Claim7 := { stood := { row := storeApartUptoRow, standIns := [], harness := (true, "eb5cef6a3d1b60cc0537e1a79d5b2075ddd5b4e4cb195fa5f527dcfb4c876477"), looks := true }, kinds := [], alts := [], laidByText := true, laidKinds := [.data, .pinned], laidTests := true, laidLooks := .later }
def StoreApartUptoCardSaid : Prop := Claim7.holds Tryz.pinned (.plain (OpenSpec.upto storeApartSpec)) storeApartUptoCard

/-- THE SECOND FORM's CARD OF 'spatelaw10.StoreScans'. -/
def storeScansUptoCard : Claim7 := { stood := { row := storeScansUptoRow, standIns := [], harness := (true, "eb5cef6a3d1b60cc0537e1a79d5b2075ddd5b4e4cb195fa5f527dcfb4c876477"), looks := true }, kinds := [], alts := [], laidByText := true, laidKinds := [.data, .pinned], laidTests := true, laidLooks := .later }
def StoreScansUptoCardSaid : Prop := Claim7.holds Tryz.pinned (.plain (OpenSpec.upto storeScansSpec)) storeScansUptoCard
end Rows
end Go.Proofs.YtgbkihkefdoddaaGreatDoor
