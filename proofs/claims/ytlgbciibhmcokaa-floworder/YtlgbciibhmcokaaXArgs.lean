/- Arguments that came in: steps of a flow. -/
import Derived.Test.YtlgbciibhmcokaaXFlow
import Derived.ProofKit
import Derived.OpenShut
import Derived.SizedLaws
import Derived.Deep.Slices
import Derived.ChangeSlices
import Derived.ChangeArms
namespace Go.Proofs.Ytlgbciibhmcokaa
open Go.ChangeShapes Go.WideShapes Go.ChangeAt Go.RowKit

theorem argOwn : ownKnob Try.prog.godebug = none := by kernel_rfl
theorem argLaid : laidOutB Try.prog = true := by kernel_rfl
theorem Try.cInt : Try.prog.cellsOf 3 = 1 := by kernel_rfl
theorem Try.cI64 : Try.prog.cellsOf 2 = 1 := by kernel_rfl
theorem Try.cBool : Try.prog.cellsOf 4 = 1 := by kernel_rfl
theorem Try.cStr : Try.prog.cellsOf 9 = 1 := by kernel_rfl
theorem Try.cItem : Try.prog.cellsOf 33 = 4 := by kernel_rfl
theorem addr_plain {W : World} {a : Addr} {v : Value} (h : W.cell? (a.add 0) = some v) : ∃ b off, a = ⟨b, off, none⟩ := by
  obtain ⟨b, off, spot⟩ := a
  have hspot : spot = none := by simpa [Addr.add] using World.cell?_spot h
  exact ⟨b, off, by rw [hspot]⟩
/-- A step. -/
structure Sp where
  k : Int
  a : Int
  x : It
def sp0 : Sp := ⟨0, 0, it0⟩
/-- A step's six cells. -/
def SpAt (w : World) (b o : Nat) (s : Sp) : Prop := w.cell? ⟨b, o, none⟩ = some (.int .i64 s.k) ∧ w.cell? ⟨b, o + 1, none⟩ = some (.int .i64 s.a) ∧ w.cell? ⟨b, o + 2, none⟩ = some (.bool s.x.m) ∧ w.cell? ⟨b, o + 3, none⟩ = some (.string s.x.k) ∧ w.cell? ⟨b, o + 4, none⟩ = some (.int .i64 s.x.t) ∧ w.cell? ⟨b, o + 5, none⟩ = some (.int .i64 s.x.v)
/-- Steps at a slice. -/
def Sps (w : World) (v : Value) (rs : List Sp) : Prop :=
  ∃ ao cap, v = .slice ao rs.length cap ∧ rs.length ≤ 9223372036854775807 ∧ (rs ≠ [] → ∃ (b off : Nat), ao = some ⟨b, off, none⟩ ∧ ∀ i, i < rs.length → SpAt w b (off + i * 6) (rs.getD i sp0))
theorem Sps.step {w w' : World} {v : Value} {rs : List Sp} (h : Sps w v rs) (hf : Fr w w' (fun _ => False)) : Sps w' v rs := by
  obtain ⟨ao, cap, rfl, hl, hcell⟩ := h
  refine ⟨ao, cap, rfl, hl, fun hne => ?_⟩
  obtain ⟨b, off, rfl, hc⟩ := hcell hne
  refine ⟨b, off, rfl, fun i hi => ?_⟩
  obtain ⟨h0, h1, h2, h3, h4, h5⟩ := hc i hi
  have hlt := World.block_lt_of_cell? w _ h0
  have hr := (fr_rules hf).1 b
  exact ⟨by rw [hr _ hlt]; exact h0, by rw [hr _ hlt]; exact h1, by rw [hr _ hlt]; exact h2, by rw [hr _ hlt]; exact h3, by rw [hr _ hlt]; exact h4, by rw [hr _ hlt]; exact h5⟩
theorem Sps.at {w : World} {ao : Option Addr} {n cap : Nat} {rs : List Sp} (h : Sps w (.slice ao n cap) rs) {i : Nat} (hi : i < rs.length) : ∃ b off, ao = some ⟨b, off, none⟩ ∧ SpAt w b (off + i * 6) (rs.getD i sp0) := by
  obtain ⟨ao', cap', e, hl, hcell⟩ := h
  obtain ⟨b, off, e2, hc⟩ := hcell (by intro e; subst e; simp at hi)
  simp only [Value.slice.injEq] at e
  exact ⟨b, off, by rw [e.1, e2], hc i hi⟩
theorem Try.cStep : Try.prog.cellsOf 35 = 6 := by kernel_rfl
set_option maxRecDepth 100000 in
theorem Try.step_struct : ∃ f0 f1 f2 : Field, Try.prog.underlying 35 = some (.struct #[f0, f1, f2]) ∧ (f0.offset = 0 ∧ f0.type = 3) ∧ (f1.offset = 1 ∧ f1.type = 3) ∧ (f2.offset = 2 ∧ f2.type = 33) :=
  ⟨_, _, _, Try.underlying35, ⟨rfl, rfl⟩, ⟨rfl, rfl⟩, ⟨rfl, rfl⟩⟩
set_option maxRecDepth 100000 in
theorem Try.item_struct : ∃ f0 f1 f2 f3 : Field, Try.prog.underlying 33 = some (.struct #[f0, f1, f2, f3]) ∧ (f0.offset = 0 ∧ f0.type = 4) ∧ (f1.offset = 1 ∧ f1.type = 9) ∧ (f2.offset = 2 ∧ f2.type = 2) ∧ (f3.offset = 3 ∧ f3.type = 2) :=
  ⟨_, _, _, _, Try.underlying33, ⟨rfl, rfl⟩, ⟨rfl, rfl⟩, ⟨rfl, rfl⟩, ⟨rfl, rfl⟩⟩
set_option maxRecDepth 100000 in
theorem item_of_trod {H : Type} {enc : TypeId × Value → H} {W : World} {base : Nat} {held : Bool} {fuel : Nat} {c0 c1 c2 c3 : Value} {x : DataW H × List MemPlace} (h : DataW.trod enc Try.prog W base (fun _ => true) held fuel 33 [c0, c1, c2, c3] = some x) : ∃ y : It, c0 = .bool y.m ∧ c1 = .string y.k ∧ c2 = .int .i64 y.t ∧ c3 = .int .i64 y.v := by
  obtain ⟨f0, f1, f2, f3, hs, ⟨o0, t0⟩, ⟨o1, t1⟩, ⟨o2, t2⟩, ⟨o3, t3⟩⟩ := Try.item_struct
  obtain ⟨xs, n, _, hx, hlen, hxl, hf⟩ := DataW.trod_struct hs h
  match xs, hxl with
  | [y0, y1, y2, y3], _ =>
    have g0 := hf 0 f0 rfl
    have g1 := hf 1 f1 rfl
    have g2 := hf 2 f2 rfl
    have g3 := hf 3 f3 rfl
    rw [o0, t0, Try.cBool] at g0
    rw [o1, t1, Try.cStr] at g1
    rw [o2, t2, Try.cI64] at g2
    rw [o3, t3, Try.cI64] at g3
    simp only [List.drop_succ_cons, List.drop_zero, List.take_succ_cons, List.take_zero, List.getElem?_cons_zero, List.getElem?_cons_succ] at g0 g1 g2 g3
    obtain ⟨n0, e0, _⟩ := DataW.trod_bool Try.underlying4 g0
    obtain ⟨n1, e1, _, _⟩ := DataW.trod_string Try.underlying9 g1
    obtain ⟨n2, e2, _, _⟩ := DataW.trod_int Try.underlying2 g2
    obtain ⟨n3, e3, _, _⟩ := DataW.trod_int Try.underlying2 g3
    simp only [List.cons.injEq, and_true] at e0 e1 e2 e3
    exact ⟨⟨n0, n1, n2, n3⟩, e0, e1, e2, e3⟩
set_option maxRecDepth 100000 in
theorem sp_one {H : Type} {enc : TypeId × Value → H} {W : World} {base : Nat} {held : Bool} {fuel : Nat} {a : Addr} {cs : List Value} {x : DataW H × List MemPlace} (hc : W.cells? base a 6 = some cs) (h : DataW.trod enc Try.prog W base (fun _ => true) held fuel 35 cs = some x) :
    ∃ r : Sp, ∃ b o, a = ⟨b, o, none⟩ ∧ SpAt W b o r := by
  obtain ⟨f0, f1, f2, hs, ⟨o0, t0⟩, ⟨o1, t1⟩, ⟨o2, t2⟩⟩ := Try.step_struct
  obtain ⟨xs, n, _, hx, hlen, hxl, hf⟩ := DataW.trod_struct hs h
  obtain ⟨_, hl5, hcell⟩ := World.cells?_some hc
  match cs, hl5 with
  | [c0, c1, c2, c3, c4, c5], _ =>
    match xs, hxl with
    | [y0, y1, y2], _ =>
      have g0 := hf 0 f0 rfl
      have g1 := hf 1 f1 rfl
      have g2 := hf 2 f2 rfl
      rw [o0, t0, Try.cInt] at g0
      rw [o1, t1, Try.cInt] at g1
      rw [o2, t2, Try.cItem] at g2
      simp only [List.drop_succ_cons, List.drop_zero, List.take_succ_cons, List.take_zero, List.getElem?_cons_zero, List.getElem?_cons_succ] at g0 g1 g2
      obtain ⟨n0, e0, _, _⟩ := DataW.trod_int Try.underlying3 g0
      obtain ⟨n1, e1, _, _⟩ := DataW.trod_int Try.underlying3 g1
      obtain ⟨y, z0, z1, z2, z3⟩ := item_of_trod g2
      simp only [List.cons.injEq, and_true] at e0 e1
      subst e0 e1 z0 z1 z2 z3
      have h0 := hcell 0 (by omega)
      have h1 := hcell 1 (by omega)
      have h2 := hcell 2 (by omega)
      have h3 := hcell 3 (by omega)
      have h4 := hcell 4 (by omega)
      have h5 := hcell 5 (by omega)
      obtain ⟨b, o, rfl⟩ := addr_plain h0
      rw [Addr.add_lit] at h0 h1 h2 h3 h4 h5
      exact ⟨⟨n0, n1, y⟩, b, o, rfl, h0, h1, h2, h3, h4, h5⟩
set_option maxRecDepth 100000 in
theorem sps_of_trod {H : Type} {enc : TypeId × Value → H} {W : World} {base : Nat} {held : Bool} {fuel : Nat} {c : Value} {x : DataW H × List MemPlace} (h : DataW.trod enc Try.prog W base (fun _ => true) held fuel 22 [c] = some x) :
    ∃ rs : List Sp, Sps W c rs := by
  rcases Go.Deep.open_slice Try.underlying22 h with ⟨hcs, _⟩ | ⟨a, len, cap, m, n, D, Pl, hcs, _, hl, hm, hmm, hx, hV⟩
  · simp at hcs
    subst hcs
    exact ⟨[], ⟨none, 0, rfl, by simp, fun h => absurd rfl h⟩⟩
  · simp at hcs
    subst hcs
    simp only [if_true] at hmm
    rw [Try.cStep] at hV
    haveI : Inhabited Sp := ⟨sp0⟩
    obtain ⟨F, hF⟩ := Go.Deep.choose_lt (α := Sp) (p := fun i r => ∃ b o, a.add (i * 6) = ⟨b, o, none⟩ ∧ SpAt W b o r) (n := len) (fun i hi => by
      obtain ⟨cs', h1, h2⟩ := hV i (by omega)
      exact sp_one h1 h2)
    refine ⟨(List.range len).map F, some a, cap, by simp, by unfold maxLen at hm; simp; omega, fun hne => ?_⟩
    have hpos : 0 < len := by
      rcases Nat.eq_zero_or_pos len with h0 | h0
      · subst h0
        simp at hne
      · exact h0
    obtain ⟨b, o, e0, hc0⟩ := hF 0 hpos
    obtain ⟨ab, ao, sp⟩ := a
    have hsp : sp = none := by
      have := congrArg Addr.spot e0
      simpa [Addr.add] using this
    subst hsp
    refine ⟨ab, ao, rfl, fun i hi => ?_⟩
    simp at hi
    obtain ⟨b', o', e1, hc⟩ := hF i hi
    rw [Addr.add_lit] at e1
    simp only [Addr.mk.injEq, and_true] at e1
    obtain ⟨rfl, rfl⟩ := e1
    have e2 : ((List.range len).map F).getD i sp0 = F i := by simp [List.getD, hi]
    rw [e2]
    exact hc
end Go.Proofs.Ytlgbciibhmcokaa
