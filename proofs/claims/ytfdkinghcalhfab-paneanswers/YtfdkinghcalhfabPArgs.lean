/- Arguments that came in: a view. -/
import Derived.Test.YtfdkinghcalhfabPBase
import Derived.ProofKit
import Derived.OpenShut
import Derived.Deep.Slices
import Derived.SizedLaws
namespace Go.Proofs.Ytfdkinghcalhfab
open Go.ChangeShapes Go.WideShapes Go.ChangeAt Go.RowKit

theorem Try.cellsVw : Try.prog.cellsOf 23 = 3 := by kernel_rfl
theorem Try.cells64 : Try.prog.cellsOf 2 = 1 := by kernel_rfl
set_option maxRecDepth 100000 in
theorem Try.view_struct : ∃ f0 f1 f2 : Field, Try.prog.underlying 23 = some (.struct #[f0, f1, f2]) ∧ (f0.offset = 0 ∧ f0.type = 2) ∧ (f1.offset = 1 ∧ f1.type = 2) ∧ (f2.offset = 2 ∧ f2.type = 2) :=
  ⟨_, _, _, Try.underlying23, ⟨rfl, rfl⟩, ⟨rfl, rfl⟩, ⟨rfl, rfl⟩⟩

set_option maxRecDepth 100000 in
theorem view_of_trod {H : Type} {enc : TypeId × Value → H} {W : World} {base : Nat} {spare : Nat → Bool} {held : Bool} {fuel : Nat} {cs : List Value} {x : DataW H × List MemPlace} (hl : cs.length = 3) (h : DataW.trod enc Try.prog W base spare held fuel 23 cs = some x) :
    ∃ s d l : Int, fits s ∧ fits d ∧ fits l ∧ cs = [.int .i64 s, .int .i64 d, .int .i64 l] := by
  obtain ⟨f0, f1, f2, hs, ⟨o0, t0⟩, ⟨o1, t1⟩, ⟨o2, t2⟩⟩ := Try.view_struct
  obtain ⟨xs, n, _, hx, hlen, hxl, hf⟩ := DataW.trod_struct hs h
  match cs, hl with
  | [c0, c1, c2], _ =>
    match xs, hxl with
    | [y0, y1, y2], _ =>
      have g0 := hf 0 f0 rfl
      have g1 := hf 1 f1 rfl
      have g2 := hf 2 f2 rfl
      rw [o0, t0, Try.cells64] at g0
      rw [o1, t1, Try.cells64] at g1
      rw [o2, t2, Try.cells64] at g2
      simp only [List.drop_succ_cons, List.drop_zero, List.take_succ_cons, List.take_zero, List.getElem?_cons_zero, List.getElem?_cons_succ] at g0 g1 g2
      obtain ⟨n0, e0, _, w0⟩ := DataW.trod_int Try.underlying2 g0
      obtain ⟨n1, e1, _, w1⟩ := DataW.trod_int Try.underlying2 g1
      obtain ⟨n2, e2, _, w2⟩ := DataW.trod_int Try.underlying2 g2
      simp only [List.cons.injEq, and_true] at e0 e1 e2
      subst e0 e1 e2
      exact ⟨n0, n1, n2, bounds_i64 w0, bounds_i64 w1, bounds_i64 w2, rfl⟩

/-- A view as an argument. -/
theorem view_of_arg {H : Type} {enc : TypeId × Value → H} {W : World} {base b0 : Nat} {r : Reach} {spare : Nat → Bool} {held : Bool} {v : Value} {d : DataW H} {p : List MemPlace} (hok : Value.okWide Try.prog W r b0 23 v) (h : DataW.Trod enc Try.prog W base spare held 23 v d p) :
    ∃ s d l : Int, fits s ∧ fits d ∧ fits l ∧ v = .agg #[.int .i64 s, .int .i64 d, .int .i64 l] := by
  obtain ⟨cs, rfl, hsz⟩ := okWide_struct Try.underlying23 hok
  rw [Try.cellsVw] at hsz
  obtain ⟨f, hf⟩ := h
  have hf' : DataW.trod enc Try.prog W base spare held f 23 cs.toList = some (d, p) := by simpa [Value.cells] using hf
  obtain ⟨s, d, l, h1, h2, h3, e⟩ := view_of_trod (by simpa using hsz) hf'
  refine ⟨s, d, l, h1, h2, h3, ?_⟩
  congr 1
  apply Array.ext'
  rw [e]
theorem argOwn : ownKnob Try.prog.godebug = none := by kernel_rfl
theorem argLaid : laidOutB Try.prog = true := by kernel_rfl
end Go.Proofs.Ytfdkinghcalhfab
