/- Scripts that came in. -/
import Derived.Test.YtimefcmemklhpaaEKnown
import Derived.ProofKit
import Derived.OpenShut
import Derived.SizedLaws
import Derived.Deep.Slices
import Derived.ChangeSlices
namespace Go.Proofs.Ytimefcmemklhpaa.E
open Go.ChangeShapes Go.WideShapes Go.ChangeAt Go.RowKit

theorem addr_plain {W : World} {a : Addr} {v : Value} (h : W.cell? (a.add 0) = some v) : ∃ b off, a = ⟨b, off, none⟩ := by
  obtain ⟨b, off, spot⟩ := a
  have hspot : spot = none := by simpa [Addr.add] using World.cell?_spot h
  exact ⟨b, off, by rw [hspot]⟩
theorem cellsInt : Try.prog.cellsOf 3 = 1 := by kernel_rfl
theorem cellsBool : Try.prog.cellsOf 4 = 1 := by kernel_rfl
theorem cellsStep : Try.prog.cellsOf 32 = 4 := by kernel_rfl
set_option maxRecDepth 100000 in
theorem step_struct : ∃ f0 f1 f2 f3 : Field, Try.prog.underlying 32 = some (.struct #[f0, f1, f2, f3]) ∧ (f0.offset = 0 ∧ f0.type = 3) ∧ (f1.offset = 1 ∧ f1.type = 3) ∧ (f2.offset = 2 ∧ f2.type = 3) ∧ (f3.offset = 3 ∧ f3.type = 4) :=
  ⟨_, _, _, _, Try.underlying32, ⟨rfl, rfl⟩, ⟨rfl, rfl⟩, ⟨rfl, rfl⟩, ⟨rfl, rfl⟩⟩
theorem i64_bounds {x : Int} (h : (Lit.int .i64 x).wf = true) : fits x := by
  have := bounds_i64 h
  unfold fits
  omega
def st0 : Stp := ⟨0, 0, 0, false⟩
/-- A step's four cells. -/
def StAt (w : World) (b o : Nat) (s : Stp) : Prop := w.cell? ⟨b, o, none⟩ = some (.int .i64 s.k) ∧ w.cell? ⟨b, o + 1, none⟩ = some (.int .i64 s.o) ∧ w.cell? ⟨b, o + 2, none⟩ = some (.int .i64 s.e) ∧ w.cell? ⟨b, o + 3, none⟩ = some (.bool s.l) ∧ s.fits
/-- A script at a slice. -/
def Sc (w : World) (v : Value) (ss : List Stp) : Prop := ∃ ao cap, v = .slice ao ss.length cap ∧ (ss ≠ [] → ∃ b off, ao = some ⟨b, off, none⟩ ∧ ∀ i, i < ss.length → StAt w b (off + i * 4) (ss.getD i st0))

set_option maxRecDepth 100000 in
theorem step_of_trod {H : Type} {enc : TypeId × Value → H} {W : World} {base : Nat} {held : Bool} {fuel : Nat} {a : Addr} {cs : List Value} {x : DataW H × List MemPlace} (hc : W.cells? base a 4 = some cs) (h : DataW.trod enc Try.prog W base (fun _ => true) held fuel 32 cs = some x) :
    ∃ s : Stp, ∃ b o, a = ⟨b, o, none⟩ ∧ StAt W b o s := by
  obtain ⟨f0, f1, f2, f3, hs, ⟨o0, t0⟩, ⟨o1, t1⟩, ⟨o2, t2⟩, ⟨o3, t3⟩⟩ := step_struct
  obtain ⟨xs, n, _, hx, hlen, hxl, hf⟩ := DataW.trod_struct hs h
  obtain ⟨_, hl5, hcell⟩ := World.cells?_some hc
  match cs, hl5 with
  | [c0, c1, c2, c3], _ =>
    match xs, hxl with
    | [y0, y1, y2, y3], _ =>
      have g0 := hf 0 f0 rfl
      have g1 := hf 1 f1 rfl
      have g2 := hf 2 f2 rfl
      have g3 := hf 3 f3 rfl
      rw [o0, t0, cellsInt] at g0
      rw [o1, t1, cellsInt] at g1
      rw [o2, t2, cellsInt] at g2
      rw [o3, t3, cellsBool] at g3
      simp only [List.drop_succ_cons, List.drop_zero, List.take_succ_cons, List.take_zero, List.getElem?_cons_zero, List.getElem?_cons_succ] at g0 g1 g2 g3
      obtain ⟨n0, e0, _, w0⟩ := DataW.trod_int Try.underlying3 g0
      obtain ⟨n1, e1, _, w1⟩ := DataW.trod_int Try.underlying3 g1
      obtain ⟨n2, e2, _, w2⟩ := DataW.trod_int Try.underlying3 g2
      obtain ⟨n3, e3, _⟩ := DataW.trod_bool Try.underlying4 g3
      simp only [List.cons.injEq, and_true] at e0 e1 e2 e3
      subst e0 e1 e2 e3
      have h0 := hcell 0 (by omega)
      have h1 := hcell 1 (by omega)
      have h2 := hcell 2 (by omega)
      have h3 := hcell 3 (by omega)
      obtain ⟨b, o, rfl⟩ := addr_plain h0
      rw [Addr.add_lit] at h0 h1 h2 h3
      exact ⟨⟨n0, n1, n2, n3⟩, b, o, rfl, h0, h1, h2, h3, i64_bounds w0, i64_bounds w1, i64_bounds w2⟩

set_option maxRecDepth 100000 in
theorem sc_of_trod {H : Type} {enc : TypeId × Value → H} {W : World} {base : Nat} {held : Bool} {fuel : Nat} {c : Value} {x : DataW H × List MemPlace} (h : DataW.trod enc Try.prog W base (fun _ => true) held fuel 22 [c] = some x) :
    ∃ ss : List Stp, Sc W c ss := by
  rcases Go.Deep.open_slice Try.underlying22 h with ⟨hcs, _⟩ | ⟨a, len, cap, m, n, D, Pl, hcs, _, hl, hm, hmm, hx, hV⟩
  · simp at hcs
    subst hcs
    exact ⟨[], ⟨none, 0, rfl, fun h => absurd rfl h⟩⟩
  · simp at hcs
    subst hcs
    simp only [if_true] at hmm
    rw [cellsStep] at hV
    haveI : Inhabited Stp := ⟨st0⟩
    obtain ⟨F, hF⟩ := Go.Deep.choose_lt (α := Stp) (p := fun i s => ∃ b o, a.add (i * 4) = ⟨b, o, none⟩ ∧ StAt W b o s) (n := len) (fun i hi => by
      obtain ⟨cs', h1, h2⟩ := hV i (by omega)
      exact step_of_trod h1 h2)
    refine ⟨(List.range len).map F, some a, cap, by simp, fun hne => ?_⟩
    have hpos : 0 < len := by
      rcases Nat.eq_zero_or_pos len with h0 | h0
      · subst h0
        simp at hne
      · exact h0
    obtain ⟨b, o, e0, hc0⟩ := hF 0 hpos
    obtain ⟨ab, ao, sp⟩ := a
    have hsp : sp = none := by
      have := congrArg Addr.spot e0
      simpa [Addr.add] using this
    subst hsp
    refine ⟨ab, ao, rfl, fun i hi => ?_⟩
    simp at hi
    obtain ⟨b', o', e1, hc⟩ := hF i hi
    rw [Addr.add_lit] at e1
    simp only [Addr.mk.injEq, and_true] at e1
    obtain ⟨rfl, rfl⟩ := e1
    have e2 : ((List.range len).map F).getD i st0 = F i := by simp [List.getD, hi]
    rw [e2]
    exact hc
end Go.Proofs.Ytimefcmemklhpaa.E
