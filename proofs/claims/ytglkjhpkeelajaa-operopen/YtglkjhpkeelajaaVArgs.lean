/- Arguments that came in: steps, of which the source and the time are read. -/
import Derived.Test.YtglkjhpkeelajaaQArgs
namespace Go.Proofs.Ytglkjhpkeelajaa.V
open Go.ChangeShapes Go.WideShapes Go.ChangeAt Go.RowKit

/-- Steps at a slice: their sources and times. -/
def Sq (w : World) (v : Value) (rs : List Rq) : Prop :=
  ∃ ao cap, v = .slice ao rs.length cap ∧ rs.length ≤ 9223372036854775807 ∧ (rs ≠ [] → ∃ (b off : Nat), ao = some ⟨b, off, none⟩ ∧ ∀ i, i < rs.length → w.cell? ⟨b, off + i * 6 + 1, none⟩ = some (.int .i64 (rs.getD i rq0).s) ∧ w.cell? ⟨b, off + i * 6 + 3, none⟩ = some (.int .i64 (rs.getD i rq0).t))
theorem Sq.step {w w' : World} {v : Value} {rs : List Rq} (h : Sq w v rs) (hf : Fr w w' (fun _ => False)) : Sq w' v rs := by
  obtain ⟨ao, cap, rfl, hl, hcell⟩ := h
  refine ⟨ao, cap, rfl, hl, fun hne => ?_⟩
  obtain ⟨b, off, rfl, hc⟩ := hcell hne
  refine ⟨b, off, rfl, fun i hi => ?_⟩
  obtain ⟨h0, h1⟩ := hc i hi
  have hlt := World.block_lt_of_cell? w _ h0
  have hr := (fr_rules hf).1 b
  exact ⟨by rw [hr _ hlt]; exact h0, by rw [hr _ hlt]; exact h1⟩
theorem Sq.at {w : World} {ao : Option Addr} {n cap : Nat} {rs : List Rq} (h : Sq w (.slice ao n cap) rs) {i : Nat} (hi : i < rs.length) : ∃ b off, ao = some ⟨b, off, none⟩ ∧ w.cell? ⟨b, off + i * 6 + 1, none⟩ = some (.int .i64 (rs.getD i rq0).s) ∧ w.cell? ⟨b, off + i * 6 + 3, none⟩ = some (.int .i64 (rs.getD i rq0).t) := by
  obtain ⟨ao', cap', e, hl, hcell⟩ := h
  obtain ⟨b, off, e2, hc⟩ := hcell (by intro e; subst e; simp at hi)
  simp only [Value.slice.injEq] at e
  exact ⟨b, off, by rw [e.1, e2], (hc i hi).1, (hc i hi).2⟩
theorem Try.cStep : Try.prog.cellsOf 37 = 6 := by kernel_rfl
theorem Try.cStr : Try.prog.cellsOf 9 = 1 := by kernel_rfl
set_option maxRecDepth 100000 in
theorem Try.step_struct : ∃ f0 f1 f2 f3 f4 f5 : Field, Try.prog.underlying 37 = some (.struct #[f0, f1, f2, f3, f4, f5]) ∧ (f0.offset = 0 ∧ f0.type = 3) ∧ (f1.offset = 1 ∧ f1.type = 3) ∧ (f2.offset = 2 ∧ f2.type = 9) ∧ (f3.offset = 3 ∧ f3.type = 2) ∧ (f4.offset = 4 ∧ f4.type = 2) ∧ (f5.offset = 5 ∧ f5.type = 35) :=
  ⟨_, _, _, _, _, _, Try.underlying37, ⟨rfl, rfl⟩, ⟨rfl, rfl⟩, ⟨rfl, rfl⟩, ⟨rfl, rfl⟩, ⟨rfl, rfl⟩, ⟨rfl, rfl⟩⟩
set_option maxRecDepth 100000 in
theorem sq_one {H : Type} {enc : TypeId × Value → H} {W : World} {base : Nat} {held : Bool} {fuel : Nat} {a : Addr} {cs : List Value} {x : DataW H × List MemPlace} (hc : W.cells? base a 6 = some cs) (h : DataW.trod enc Try.prog W base (fun _ => true) held fuel 37 cs = some x) :
    ∃ r : Rq, ∃ b o, a = ⟨b, o, none⟩ ∧ W.cell? ⟨b, o + 1, none⟩ = some (.int .i64 r.s) ∧ W.cell? ⟨b, o + 3, none⟩ = some (.int .i64 r.t) := by
  obtain ⟨f0, f1, f2, f3, f4, f5, hs, ⟨o0, t0⟩, ⟨o1, t1⟩, _, ⟨o3, t3⟩, _⟩ := Try.step_struct
  obtain ⟨xs, n, _, hx, hlen, hxl, hf⟩ := DataW.trod_struct hs h
  obtain ⟨_, hl5, hcell⟩ := World.cells?_some hc
  match cs, hl5 with
  | [c0, c1, c2, c3, c4, c5], _ =>
    match xs, hxl with
    | [y0, y1, y2, y3, y4, y5], _ =>
      have g1 := hf 1 f1 rfl
      have g3 := hf 3 f3 rfl
      rw [o1, t1, Try.cInt] at g1
      rw [o3, t3, Try.cI64] at g3
      simp only [List.drop_succ_cons, List.drop_zero, List.take_succ_cons, List.take_zero, List.getElem?_cons_zero, List.getElem?_cons_succ] at g1 g3
      obtain ⟨n1, e1, _, _⟩ := DataW.trod_int Try.underlying3 g1
      obtain ⟨n3, e3, _, _⟩ := DataW.trod_int Try.underlying2 g3
      simp only [List.cons.injEq, and_true] at e1 e3
      subst e1 e3
      have h0 := hcell 0 (by omega)
      have h1 := hcell 1 (by omega)
      have h3 := hcell 3 (by omega)
      obtain ⟨b, o, rfl⟩ := addr_plain h0
      rw [Addr.add_lit] at h1 h3
      exact ⟨⟨n1, n3⟩, b, o, rfl, h1, h3⟩
set_option maxRecDepth 100000 in
theorem sq_of_trod {H : Type} {enc : TypeId × Value → H} {W : World} {base : Nat} {held : Bool} {fuel : Nat} {c : Value} {x : DataW H × List MemPlace} (h : DataW.trod enc Try.prog W base (fun _ => true) held fuel 23 [c] = some x) :
    ∃ rs : List Rq, Sq W c rs := by
  rcases Go.Deep.open_slice Try.underlying23 h with ⟨hcs, _⟩ | ⟨a, len, cap, m, n, D, Pl, hcs, _, hl, hm, hmm, hx, hV⟩
  · simp at hcs
    subst hcs
    exact ⟨[], ⟨none, 0, rfl, by simp, fun h => absurd rfl h⟩⟩
  · simp at hcs
    subst hcs
    simp only [if_true] at hmm
    rw [Try.cStep] at hV
    haveI : Inhabited Rq := ⟨rq0⟩
    obtain ⟨F, hF⟩ := Go.Deep.choose_lt (α := Rq) (p := fun i r => ∃ b o, a.add (i * 6) = ⟨b, o, none⟩ ∧ W.cell? ⟨b, o + 1, none⟩ = some (.int .i64 r.s) ∧ W.cell? ⟨b, o + 3, none⟩ = some (.int .i64 r.t)) (n := len) (fun i hi => by
      obtain ⟨cs', h1, h2⟩ := hV i (by omega)
      exact sq_one h1 h2)
    refine ⟨(List.range len).map F, some a, cap, by simp, by unfold maxLen at hm; simp; omega, fun hne => ?_⟩
    have hpos : 0 < len := by
      rcases Nat.eq_zero_or_pos len with h0 | h0
      · subst h0
        simp at hne
      · exact h0
    obtain ⟨b, o, e0, hc0⟩ := hF 0 hpos
    obtain ⟨ab, ao, sp⟩ := a
    have hsp : sp = none := by
      have := congrArg Addr.spot e0
      simpa [Addr.add] using this
    subst hsp
    refine ⟨ab, ao, rfl, fun i hi => ?_⟩
    simp at hi
    obtain ⟨b', o', e1, hc⟩ := hF i hi
    rw [Addr.add_lit] at e1
    simp only [Addr.mk.injEq, and_true] at e1
    obtain ⟨rfl, rfl⟩ := e1
    have e2 : ((List.range len).map F).getD i rq0 = F i := by simp [List.getD, hi]
    rw [e2]
    exact hc
end Go.Proofs.Ytglkjhpkeelajaa.V
