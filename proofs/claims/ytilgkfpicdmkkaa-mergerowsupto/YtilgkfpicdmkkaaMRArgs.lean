/- Arguments that came in: rows. -/
import Derived.Test.YtilgkfpicdmkkaaMSame
import Derived.ProofKit
import Derived.OpenShut
import Derived.SizedLaws
import Derived.Deep.Slices
import Derived.ChangeSlices
namespace Go.Proofs.Ytilgkfpicdmkkaa.M
open Go.ChangeShapes Go.WideShapes Go.ChangeAt Go.RowKit

theorem Try.ck_int : Try.prog.cellsOf 3 = 1 := by kernel_rfl
theorem Try.ck_i64 : Try.prog.cellsOf 2 = 1 := by kernel_rfl
theorem Try.ck_str : Try.prog.cellsOf 9 = 1 := by kernel_rfl
theorem Try.ck_cell : Try.prog.cellsOf 52 = 3 := by kernel_rfl
theorem Try.ck_agg : Try.prog.cellsOf 50 = 4 := by kernel_rfl
theorem Try.ck_row : Try.prog.cellsOf 54 = 7 := by kernel_rfl
theorem addr_plain {w : World} {a : Addr} {v : Value} (h : w.cell? (a.add 0) = some v) : ∃ b off, a = ⟨b, off, none⟩ := by
  obtain ⟨b, off, spot⟩ := a
  have hspot : spot = none := by simpa [Addr.add] using World.cell?_spot h
  exact ⟨b, off, by rw [hspot]⟩
set_option maxRecDepth 100000 in
theorem Try.row_struct : ∃ f0 f1 : Field, Try.prog.underlying 54 = some (.struct #[f0, f1]) ∧ (f0.offset = 0 ∧ f0.type = 52) ∧ (f1.offset = 3 ∧ f1.type = 50) :=
  ⟨_, _, Try.underlying54, ⟨rfl, rfl⟩, ⟨rfl, rfl⟩⟩
set_option maxRecDepth 100000 in
theorem Try.agg_struct : ∃ f0 f1 f2 f3 : Field, Try.prog.underlying 50 = some (.struct #[f0, f1, f2, f3]) ∧ (f0.offset = 0 ∧ f0.type = 2) ∧ (f1.offset = 1 ∧ f1.type = 2) ∧ (f2.offset = 2 ∧ f2.type = 2) ∧ (f3.offset = 3 ∧ f3.type = 2) :=
  ⟨_, _, _, _, Try.underlying50, ⟨rfl, rfl⟩, ⟨rfl, rfl⟩, ⟨rfl, rfl⟩, ⟨rfl, rfl⟩⟩
set_option maxRecDepth 100000 in
theorem Try.cell_struct : ∃ f0 f1 f2 : Field, Try.prog.underlying 52 = some (.struct #[f0, f1, f2]) ∧ (f0.offset = 0 ∧ f0.type = 3) ∧ (f1.offset = 1 ∧ f1.type = 9) ∧ (f2.offset = 2 ∧ f2.type = 2) :=
  ⟨_, _, _, Try.underlying52, ⟨rfl, rfl⟩, ⟨rfl, rfl⟩, ⟨rfl, rfl⟩⟩
set_option maxRecDepth 100000 in
theorem cell_of_trod {H : Type} {enc : TypeId × Value → H} {w : World} {base : Nat} {spare : Nat → Bool} {held : Bool} {fuel : Nat} {cs : List Value} {x : DataW H × List MemPlace} (hl : cs.length = 3) (h : DataW.trod enc Try.prog w base spare held fuel 52 cs = some x) :
    ∃ c : Cl, cs = [.int .i64 c.v, .string c.k, .int .i64 c.s] := by
  obtain ⟨f0, f1, f2, hs, ⟨o0, t0⟩, ⟨o1, t1⟩, ⟨o2, t2⟩⟩ := Try.cell_struct
  obtain ⟨xs, n, _, hx, hlen, hxl, hf⟩ := DataW.trod_struct hs h
  match cs, hl with
  | [d0, d1, d2], _ =>
    match xs, hxl with
    | [y0, y1, y2], _ =>
      have g0 := hf 0 f0 rfl
      have g1 := hf 1 f1 rfl
      have g2 := hf 2 f2 rfl
      rw [o0, t0, Try.ck_int] at g0
      rw [o1, t1, Try.ck_str] at g1
      rw [o2, t2, Try.ck_i64] at g2
      simp only [List.drop_succ_cons, List.drop_zero, List.take_succ_cons, List.take_zero, List.getElem?_cons_zero, List.getElem?_cons_succ] at g0 g1 g2
      obtain ⟨n0, e0, _, w0⟩ := DataW.trod_int Try.underlying3 g0
      obtain ⟨s1, e1, _, w1⟩ := DataW.trod_string Try.underlying9 g1
      obtain ⟨n2, e2, _, w2⟩ := DataW.trod_int Try.underlying2 g2
      simp only [List.cons.injEq, and_true] at e0 e1 e2
      subst e0 e1 e2
      exact ⟨⟨n0, s1, n2⟩, rfl⟩
set_option maxRecDepth 100000 in
theorem agg_of_trod {H : Type} {enc : TypeId × Value → H} {w : World} {base : Nat} {spare : Nat → Bool} {held : Bool} {fuel : Nat} {cs : List Value} {x : DataW H × List MemPlace} (hl : cs.length = 4) (h : DataW.trod enc Try.prog w base spare held fuel 50 cs = some x) :
    ∃ n s m x : Int, cs = [.int .i64 n, .int .i64 s, .int .i64 m, .int .i64 x] := by
  obtain ⟨f0, f1, f2, f3, hs, ⟨o0, t0⟩, ⟨o1, t1⟩, ⟨o2, t2⟩, ⟨o3, t3⟩⟩ := Try.agg_struct
  obtain ⟨xs, n, _, hx, hlen, hxl, hf⟩ := DataW.trod_struct hs h
  match cs, hl with
  | [d0, d1, d2, d3], _ =>
    match xs, hxl with
    | [y0, y1, y2, y3], _ =>
      have g0 := hf 0 f0 rfl
      have g1 := hf 1 f1 rfl
      have g2 := hf 2 f2 rfl
      have g3 := hf 3 f3 rfl
      rw [o0, t0, Try.ck_i64] at g0
      rw [o1, t1, Try.ck_i64] at g1
      rw [o2, t2, Try.ck_i64] at g2
      rw [o3, t3, Try.ck_i64] at g3
      simp only [List.drop_succ_cons, List.drop_zero, List.take_succ_cons, List.take_zero, List.getElem?_cons_zero, List.getElem?_cons_succ] at g0 g1 g2 g3
      obtain ⟨n0, e0, _, w0⟩ := DataW.trod_int Try.underlying2 g0
      obtain ⟨n1, e1, _, w1⟩ := DataW.trod_int Try.underlying2 g1
      obtain ⟨n2, e2, _, w2⟩ := DataW.trod_int Try.underlying2 g2
      obtain ⟨n3, e3, _, w3⟩ := DataW.trod_int Try.underlying2 g3
      simp only [List.cons.injEq, and_true] at e0 e1 e2 e3
      subst e0 e1 e2 e3
      exact ⟨n0, n1, n2, n3, rfl⟩
set_option maxRecDepth 100000 in
theorem row_of_trod {H : Type} {enc : TypeId × Value → H} {w : World} {base : Nat} {held : Bool} {fuel : Nat} {a : Addr} {cs : List Value} {x : DataW H × List MemPlace} (hc : w.cells? base a 7 = some cs) (h : DataW.trod enc Try.prog w base (fun _ => true) held fuel 54 cs = some x) :
    ∃ r : Rw, ∃ b o, a = ⟨b, o, none⟩ ∧ M.W.ElAt w b o r := by
  obtain ⟨f0, f1, hs, ⟨o0, t0⟩, ⟨o1, t1⟩⟩ := Try.row_struct
  obtain ⟨xs, n, _, hx, hlen, hxl, hf⟩ := DataW.trod_struct hs h
  obtain ⟨_, hl5, hcell⟩ := World.cells?_some hc
  match xs, hxl with
  | [y0, y1], _ =>
    have g0 := hf 0 f0 rfl
    have g1 := hf 1 f1 rfl
    rw [o0, t0, Try.ck_cell] at g0
    rw [o1, t1, Try.ck_agg] at g1
    simp only [List.drop_zero, List.getElem?_cons_zero, List.getElem?_cons_succ] at g0 g1
    obtain ⟨c, e0⟩ := cell_of_trod (by rw [List.length_take]; omega) g0
    obtain ⟨rn, rs', rm, rx, e1⟩ := agg_of_trod (by rw [List.length_take, List.length_drop]; omega) g1
    have ecs : cs = [.int .i64 c.v, .string c.k, .int .i64 c.s, .int .i64 rn, .int .i64 rs', .int .i64 rm, .int .i64 rx] := by
      have h1 : cs = cs.take 3 ++ (cs.drop 3).take 4 := by
        rw [List.take_of_length_le (l := cs.drop 3) (by rw [List.length_drop]; omega), List.take_append_drop]
      rw [h1, e0, e1]
      rfl
    subst ecs
    have h0 := hcell 0 (by omega)
    obtain ⟨b, o, rfl⟩ := addr_plain (h0.trans rfl)
    have gc : ∀ i v, [Value.int .i64 c.v, .string c.k, .int .i64 c.s, .int .i64 rn, .int .i64 rs', .int .i64 rm, .int .i64 rx][i]? = some v → i < 7 → w.cell? ⟨b, o + i, none⟩ = some v := fun i v hv hi => by
      have h1 := hcell i hi
      rw [Addr.add_lit] at h1
      rw [h1]
      exact hv
    exact ⟨⟨c, rn, rs', rm, rx⟩, b, o, rfl, gc 0 _ rfl (by omega), gc 1 _ rfl (by omega), gc 2 _ rfl (by omega), gc 3 _ rfl (by omega), gc 4 _ rfl (by omega), gc 5 _ rfl (by omega), gc 6 _ rfl (by omega)⟩
set_option maxRecDepth 100000 in
theorem rows_of_trod {H : Type} {enc : TypeId × Value → H} {w : World} {base : Nat} {held : Bool} {fuel : Nat} {c : Value} {x : DataW H × List MemPlace} (h : DataW.trod enc Try.prog w base (fun _ => true) held fuel 22 [c] = some x) :
    ∃ L : List Rw, RdR w c L := by
  rcases Go.Deep.open_slice Try.underlying22 h with ⟨hcs, _⟩ | ⟨a, len, cap, m, n, D, Pl, hcs, _, hl, hm, hmm, hx, hV⟩
  · simp at hcs
    subst hcs
    exact ⟨[], none, 0, rfl, by simp, fun h => by simp at h⟩
  · simp at hcs
    subst hcs
    simp only [if_true] at hmm
    rw [Try.ck_row] at hV
    obtain ⟨F, hF⟩ := Go.Deep.choose_lt (α := Rw) (p := fun i s => ∃ b o, a.add (i * 7) = ⟨b, o, none⟩ ∧ M.W.ElAt w b o s) (n := len) (fun i hi => by
      obtain ⟨cs', h1, h2⟩ := hV i (by omega)
      exact row_of_trod h1 h2)
    have hl2 : ((List.range len).map F).length = len := by simp
    unfold maxLen at hm
    refine ⟨(List.range len).map F, some a, cap, by rw [hl2], by rw [hl2]; omega, fun hpos => ?_⟩
    rw [hl2] at hpos
    obtain ⟨b, o, e1, h1⟩ := hF 0 hpos
    have ha : ∃ b o, a = ⟨b, o, none⟩ := by
      obtain ⟨ab, ao, asp⟩ := a
      rw [Nat.zero_mul] at e1
      have := congrArg Addr.spot e1
      simp [Addr.add] at this
      cases asp with
      | none => exact ⟨ab, ao, rfl⟩
      | some z => simp at this
    obtain ⟨b', o', rfl⟩ := ha
    refine ⟨b', o', rfl, fun i hi => ?_⟩
    rw [hl2] at hi
    obtain ⟨b2, o2, e2, h2⟩ := hF i hi
    rw [Addr.add_lit] at e2
    simp only [Addr.mk.injEq, and_true] at e2
    obtain ⟨rfl, rfl⟩ := e2
    simpa [hi] using h2
end Go.Proofs.Ytilgkfpicdmkkaa.M
