/- An aggregate that came in. -/
import Derived.Test.YtbhhpkbiflolfaaABaseA
import Derived.ProofKit
import Derived.OpenShut
import Derived.Deep.Slices
namespace Go.Proofs.Ytbhhpkbiflolfaa.A
open Go.ChangeShapes Go.WideShapes Go.ChangeAt Go.RowKit

theorem Try.AcellsAg : Try.prog.cellsOf 46 = 4 := by kernel_rfl
theorem Try.AcellsAg64 : Try.prog.cellsOf 2 = 1 := by kernel_rfl
set_option maxRecDepth 100000 in
theorem Try.Aagg_struct : ∃ f0 f1 f2 f3 : Field, Try.prog.underlying 46 = some (.struct #[f0, f1, f2, f3]) ∧ (f0.offset = 0 ∧ f0.type = 2) ∧ (f1.offset = 1 ∧ f1.type = 2) ∧ (f2.offset = 2 ∧ f2.type = 2) ∧ (f3.offset = 3 ∧ f3.type = 2) :=
  ⟨_, _, _, _, Try.underlying46, ⟨rfl, rfl⟩, ⟨rfl, rfl⟩, ⟨rfl, rfl⟩, ⟨rfl, rfl⟩⟩

set_option maxRecDepth 100000 in
theorem ag_of_trod {H : Type} {enc : TypeId × Value → H} {W : World} {base : Nat} {spare : Nat → Bool} {held : Bool} {fuel : Nat} {cs : List Value} {x : DataW H × List MemPlace} (hl : cs.length = 4) (h : DataW.trod enc Try.prog W base spare held fuel 46 cs = some x) :
    ∃ a : Ag, a.ok ∧ cs = [.int .i64 a.c, .int .i64 a.s, .int .i64 a.lo, .int .i64 a.hi] := by
  obtain ⟨f0, f1, f2, f3, hs, ⟨o0, t0⟩, ⟨o1, t1⟩, ⟨o2, t2⟩, ⟨o3, t3⟩⟩ := Try.Aagg_struct
  obtain ⟨xs, n, _, hx, hlen, hxl, hf⟩ := DataW.trod_struct hs h
  match cs, hl with
  | [c0, c1, c2, c3], _ =>
    match xs, hxl with
    | [y0, y1, y2, y3], _ =>
      have g0 := hf 0 f0 rfl
      have g1 := hf 1 f1 rfl
      have g2 := hf 2 f2 rfl
      have g3 := hf 3 f3 rfl
      rw [o0, t0, Try.AcellsAg64] at g0
      rw [o1, t1, Try.AcellsAg64] at g1
      rw [o2, t2, Try.AcellsAg64] at g2
      rw [o3, t3, Try.AcellsAg64] at g3
      simp only [List.drop_succ_cons, List.drop_zero, List.take_succ_cons, List.take_zero, List.getElem?_cons_zero, List.getElem?_cons_succ] at g0 g1 g2 g3
      obtain ⟨n0, e0, _, w0⟩ := DataW.trod_int Try.underlying2 g0
      obtain ⟨n1, e1, _, w1⟩ := DataW.trod_int Try.underlying2 g1
      obtain ⟨n2, e2, _, w2⟩ := DataW.trod_int Try.underlying2 g2
      obtain ⟨n3, e3, _, w3⟩ := DataW.trod_int Try.underlying2 g3
      simp only [List.cons.injEq, and_true] at e0 e1 e2 e3
      subst e0 e1 e2 e3
      exact ⟨⟨n0, n1, n2, n3⟩, ⟨bounds_i64 w0, bounds_i64 w1, bounds_i64 w2, bounds_i64 w3⟩, rfl⟩

set_option maxRecDepth 100000 in
/-- An aggregate as an argument. -/
theorem ag_of_arg {H : Type} {enc : TypeId × Value → H} {W : World} {base b0 : Nat} {r : Reach} {spare : Nat → Bool} {held : Bool} {v : Value} {d : DataW H} {p : List MemPlace} (hok : Value.okWide Try.prog W r b0 46 v) (h : DataW.Trod enc Try.prog W base spare held 46 v d p) :
    ∃ a : Ag, a.ok ∧ v = .agg #[.int .i64 a.c, .int .i64 a.s, .int .i64 a.lo, .int .i64 a.hi] := by
  obtain ⟨cs, rfl, hsz⟩ := okWide_struct Try.underlying46 hok
  rw [Try.AcellsAg] at hsz
  obtain ⟨f, hf⟩ := h
  have hf' : DataW.trod enc Try.prog W base spare held f 46 cs.toList = some (d, p) := by simpa [Value.cells] using hf
  obtain ⟨a, ha, e⟩ := ag_of_trod (by simpa using hsz) hf'
  refine ⟨a, ha, ?_⟩
  congr 1
  apply Array.ext'
  rw [e]
end Go.Proofs.Ytbhhpkbiflolfaa.A
