/- Arguments that came in: views, nil ones without room. -/
import Derived.Test.YtfmhdpenodmblabQArgs
import Derived.Test.YtfmhdpenodmblabQLend
namespace Go.Proofs.Ytfmhdpenodmblab
open Go.ChangeShapes Go.WideShapes Go.ChangeAt Go.RowKit

def VsZ (w : World) (v : Value) (vs : List Vw) : Prop := Vs w v vs ∧ Nz v
theorem vsz_of_trod {H : Type} {enc : TypeId × Value → H} {W : World} {base : Nat} {held : Bool} {fuel : Nat} {c : Value} {x : DataW H × List MemPlace} (h : DataW.trod enc Try.prog W base (fun _ => true) held fuel 22 [c] = some x) :
    ∃ rs : List Vw, VsZ W c rs := by
  obtain ⟨rs, hrs⟩ := vs_of_trod h
  refine ⟨rs, hrs, fun n cp e => ?_⟩
  rcases Go.Deep.open_slice Try.underlying22 h with ⟨hcs, _⟩ | ⟨a, len, cap, m, n, D, Pl, hcs, _⟩
  · simp at hcs
    subst hcs
    simp at e
    omega
  · simp at hcs
    subst hcs
    simp at e
end Go.Proofs.Ytfmhdpenodmblab
