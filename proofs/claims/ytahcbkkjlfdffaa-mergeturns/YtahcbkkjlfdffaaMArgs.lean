import Derived.Test.YtahcbkkjlfdffaaMKnown
import Derived.ProofKit
import Derived.OpenShut
import Derived.ChangeMaps5
import Derived.SizedLaws
import Derived.Below
/- Arguments: cells. -/
namespace Go.Proofs.Ytahcbkkjlfdffaa.M
open Go.ChangeShapes Go.WideShapes Go.ChangeAt Go.RowKit

theorem argOwn : ownKnob Try.prog.godebug = none := by kernel_rfl
theorem argLaid : laidOutB Try.prog = true := by kernel_rfl
theorem Try.cells_i64 : Try.prog.cellsOf 2 = 1 := by kernel_rfl
theorem Try.cells_int : Try.prog.cellsOf 3 = 1 := by kernel_rfl
theorem Try.cells_str : Try.prog.cellsOf 9 = 1 := by kernel_rfl
theorem Try.cells_cell : Try.prog.cellsOf 23 = 3 := by kernel_rfl
set_option maxRecDepth 100000 in
theorem Try.cell_struct : ∃ f0 f1 f2 : Field, Try.prog.underlying 23 = some (.struct #[f0, f1, f2]) ∧ (f0.offset = 0 ∧ f0.type = 3) ∧ (f1.offset = 1 ∧ f1.type = 9) ∧ (f2.offset = 2 ∧ f2.type = 2) :=
  ⟨_, _, _, Try.underlying23, ⟨rfl, rfl⟩, ⟨rfl, rfl⟩, ⟨rfl, rfl⟩⟩

set_option maxRecDepth 100000 in
theorem cell_of_trod {H : Type} {enc : TypeId × Value → H} {W : World} {base : Nat} {spare : Nat → Bool} {held : Bool} {fuel : Nat} {cs : List Value} {x : DataW H × List MemPlace} (hl : cs.length = 3) (h : DataW.trod enc Try.prog W base spare held fuel 23 cs = some x) :
    ∃ c : Cl, c.k.size ≤ 9223372036854775807 ∧ cs = [.int .i64 c.v, .string c.k, .int .i64 c.s] := by
  obtain ⟨f0, f1, f2, hs, ⟨o0, t0⟩, ⟨o1, t1⟩, ⟨o2, t2⟩⟩ := Try.cell_struct
  obtain ⟨xs, n, _, hx, hlen, hxl, hf⟩ := DataW.trod_struct hs h
  match cs, hl with
  | [c0, c1, c2], _ =>
    match xs, hxl with
    | [y0, y1, y2], _ =>
      have g0 := hf 0 f0 rfl
      have g1 := hf 1 f1 rfl
      have g2 := hf 2 f2 rfl
      rw [o0, t0, Try.cells_int] at g0
      rw [o1, t1, Try.cells_str] at g1
      rw [o2, t2, Try.cells_i64] at g2
      simp only [List.drop_succ_cons, List.drop_zero, List.take_succ_cons, List.take_zero, List.getElem?_cons_zero, List.getElem?_cons_succ] at g0 g1 g2
      obtain ⟨n0, e0, _, w0⟩ := DataW.trod_int Try.underlying3 g0
      obtain ⟨s1, e1, _, w1⟩ := DataW.trod_string Try.underlying9 g1
      obtain ⟨n2, e2, _, w2⟩ := DataW.trod_int Try.underlying2 g2
      simp only [List.cons.injEq, and_true] at e0 e1 e2
      subst e0 e1 e2
      exact ⟨⟨n0, s1, n2⟩, by unfold maxLen at w1; exact w1, rfl⟩

set_option maxRecDepth 100000 in
/-- A cell as an argument. -/
theorem cell_of_arg {H : Type} {enc : TypeId × Value → H} {W : World} {base b0 : Nat} {r : Reach} {spare : Nat → Bool} {held : Bool} {v : Value} {d : DataW H} {p : List MemPlace} (hok : Value.okWide Try.prog W r b0 23 v) (h : DataW.Trod enc Try.prog W base spare held 23 v d p) :
    ∃ c : Cl, c.k.size ≤ 9223372036854775807 ∧ v = vC c := by
  obtain ⟨cs, rfl, hsz⟩ := okWide_struct Try.underlying23 hok
  rw [Try.cells_cell] at hsz
  obtain ⟨f, hf⟩ := h
  have hf' : DataW.trod enc Try.prog W base spare held f 23 cs.toList = some (d, p) := by simpa [Value.cells] using hf
  obtain ⟨a, ha, e⟩ := cell_of_trod (by simpa using hsz) hf'
  refine ⟨a, ha, ?_⟩
  congr 1
  apply Array.ext'
  rw [e]

end Go.Proofs.Ytahcbkkjlfdffaa.M
