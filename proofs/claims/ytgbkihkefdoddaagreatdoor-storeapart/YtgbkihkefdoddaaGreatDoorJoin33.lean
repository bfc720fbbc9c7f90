/- Arguments that came in: steps (a shard's step with a shard's number), of which the cell and the kind are read. -/
import Derived.Test.YtgbkihkefdoddaaGreatDoorJoin32
import Derived.ProofKit
import Derived.OpenShut
import Derived.SizedLaws
import Derived.Deep.Slices
import Derived.ChangeSlices
namespace Go.Proofs.YtgbkihkefdoddaaGreatDoor.St
open Go.ChangeShapes Go.WideShapes Go.ChangeAt Go.RowKit G S

/-- What is read of a step. -/
structure Sp where
  k : Int
  c : Cl
instance : Inhabited Sp := ⟨⟨0, c0⟩⟩
def SpAt (w : World) (b o : Nat) (s : Sp) : Prop := w.cell? ⟨b, o, none⟩ = some (.int .i64 s.k) ∧ w.cell? ⟨b, o + 2, none⟩ = some (.int .i64 s.c.v) ∧ w.cell? ⟨b, o + 3, none⟩ = some (.string s.c.k) ∧ w.cell? ⟨b, o + 4, none⟩ = some (.int .i64 s.c.s) ∧ s.c.k.size ≤ 9223372036854775807
theorem SpAt.step {w w' : World} {b o : Nat} {s : Sp} (h : SpAt w b o s) (hf : Fr w w' (fun _ => False)) : SpAt w' b o s := by
  have hl : b < w.heap.size := World.block_lt_of_cell? w _ h.1
  obtain ⟨h0, h1, h2, h3, h4⟩ := h
  have hr := (fr_rules hf).1
  exact ⟨(hr _ _ hl).trans h0, (hr _ _ hl).trans h1, (hr _ _ hl).trans h2, (hr _ _ hl).trans h3, h4⟩
/-- Steps at a slice. -/
def Sps (w : World) (v : Value) (ss : List Sp) : Prop := ∃ ao cap, v = .slice ao ss.length cap ∧ ss.length ≤ 9223372036854775807 ∧ (0 < ss.length → ∃ b o, ao = some ⟨b, o, none⟩ ∧ ∀ i, i < ss.length → SpAt w b (o + i * 16) (ss[i]?.getD default))

theorem Tryz.ck_int : Tryz.prog.cellsOf 3 = 1 := by kernel_rfl
theorem Tryz.ck_i64 : Tryz.prog.cellsOf 2 = 1 := by kernel_rfl
theorem Tryz.ck_str : Tryz.prog.cellsOf 9 = 1 := by kernel_rfl
theorem Tryz.ck_cell : Tryz.prog.cellsOf 33 = 3 := by kernel_rfl
theorem Tryz.ck_s7 : Tryz.prog.cellsOf 39 = 15 := by kernel_rfl
theorem Tryz.ck_s10 : Tryz.prog.cellsOf 41 = 16 := by kernel_rfl
theorem addr_plain {W : World} {a : Addr} {v : Value} (h : W.cell? (a.add 0) = some v) : ∃ b off, a = ⟨b, off, none⟩ := by
  obtain ⟨b, off, spot⟩ := a
  have hspot : spot = none := by simpa [Addr.add] using World.cell?_spot h
  exact ⟨b, off, by rw [hspot]⟩
set_option maxRecDepth 100000 in
theorem Tryz.s10_struct : ∃ f0 f1 : Field, Tryz.prog.underlying 41 = some (.struct #[f0, f1]) ∧ (f0.offset = 0 ∧ f0.type = 39) :=
  ⟨_, _, Tryz.underlying41, ⟨rfl, rfl⟩⟩
set_option maxRecDepth 100000 in
theorem Tryz.s7_struct : ∃ f0 f1 f2 f3 f4 f5 f6 f7 : Field, Tryz.prog.underlying 39 = some (.struct #[f0, f1, f2, f3, f4, f5, f6, f7]) ∧ (f0.offset = 0 ∧ f0.type = 3) ∧ (f2.offset = 2 ∧ f2.type = 33) :=
  ⟨_, _, _, _, _, _, _, _, Tryz.underlying39, ⟨rfl, rfl⟩, ⟨rfl, rfl⟩⟩
set_option maxRecDepth 100000 in
theorem Tryz.cell_struct : ∃ f0 f1 f2 : Field, Tryz.prog.underlying 33 = some (.struct #[f0, f1, f2]) ∧ (f0.offset = 0 ∧ f0.type = 3) ∧ (f1.offset = 1 ∧ f1.type = 9) ∧ (f2.offset = 2 ∧ f2.type = 2) :=
  ⟨_, _, _, Tryz.underlying33, ⟨rfl, rfl⟩, ⟨rfl, rfl⟩, ⟨rfl, rfl⟩⟩

set_option maxRecDepth 100000 in
theorem cell_of_trod {H : Type} {enc : TypeId × Value → H} {W : World} {base : Nat} {spare : Nat → Bool} {held : Bool} {fuel : Nat} {cs : List Value} {x : DataW H × List MemPlace} (hl : cs.length = 3) (h : DataW.trod enc Tryz.prog W base spare held fuel 33 cs = some x) :
    ∃ c : Cl, c.k.size ≤ 9223372036854775807 ∧ cs = [.int .i64 c.v, .string c.k, .int .i64 c.s] := by
  obtain ⟨f0, f1, f2, hs, ⟨o0, t0⟩, ⟨o1, t1⟩, ⟨o2, t2⟩⟩ := Tryz.cell_struct
  obtain ⟨xs, n, _, hx, hlen, hxl, hf⟩ := DataW.trod_struct hs h
  match cs, hl with
  | [d0, d1, d2], _ =>
    match xs, hxl with
    | [y0, y1, y2], _ =>
      have g0 := hf 0 f0 rfl
      have g1 := hf 1 f1 rfl
      have g2 := hf 2 f2 rfl
      rw [o0, t0, Tryz.ck_int] at g0
      rw [o1, t1, Tryz.ck_str] at g1
      rw [o2, t2, Tryz.ck_i64] at g2
      simp only [List.drop_succ_cons, List.drop_zero, List.take_succ_cons, List.take_zero, List.getElem?_cons_zero, List.getElem?_cons_succ] at g0 g1 g2
      obtain ⟨n0, e0, _, w0⟩ := DataW.trod_int Tryz.underlying3 g0
      obtain ⟨s1, e1, _, w1⟩ := DataW.trod_string Tryz.underlying9 g1
      obtain ⟨n2, e2, _, w2⟩ := DataW.trod_int Tryz.underlying2 g2
      simp only [List.cons.injEq, and_true] at e0 e1 e2
      subst e0 e1 e2
      exact ⟨⟨n0, s1, n2⟩, by unfold maxLen at w1; exact w1, rfl⟩
set_option maxRecDepth 100000 in
theorem sp7_of_trod {H : Type} {enc : TypeId × Value → H} {W : World} {base : Nat} {spare : Nat → Bool} {held : Bool} {fuel : Nat} {cs : List Value} {x : DataW H × List MemPlace} (hl : cs.length = 15) (h : DataW.trod enc Tryz.prog W base spare held fuel 39 cs = some x) :
    ∃ s : Sp, s.c.k.size ≤ 9223372036854775807 ∧ cs[0]? = some (.int .i64 s.k) ∧ cs[2]? = some (.int .i64 s.c.v) ∧ cs[3]? = some (.string s.c.k) ∧ cs[4]? = some (.int .i64 s.c.s) := by
  obtain ⟨f0, f1, f2, f3, f4, f5, f6, f7, hs, ⟨o0, t0⟩, ⟨o2, t2⟩⟩ := Tryz.s7_struct
  obtain ⟨xs, n, _, hx, hlen, hxl, hf⟩ := DataW.trod_struct hs h
  match cs, hl with
  | [d0, d1, d2, d3, d4, d5, d6, d7, d8, d9, d10, d11, d12, d13, d14], _ =>
    match xs, hxl with
    | [y0, y1, y2, y3, y4, y5, y6, y7], _ =>
      have g0 := hf 0 f0 rfl
      have g2 := hf 2 f2 rfl
      rw [o0, t0, Tryz.ck_int] at g0
      rw [o2, t2, Tryz.ck_cell] at g2
      simp only [List.drop_succ_cons, List.drop_zero, List.take_succ_cons, List.take_zero, List.getElem?_cons_zero, List.getElem?_cons_succ] at g0 g2
      obtain ⟨n0, e0, _, w0⟩ := DataW.trod_int Tryz.underlying3 g0
      obtain ⟨c, hc, e2⟩ := cell_of_trod rfl g2
      simp only [List.cons.injEq, and_true] at e0 e2
      obtain ⟨e3, e4, e5⟩ := e2
      exact ⟨⟨n0, c⟩, hc, by simp [e0], by simp [e3], by simp [e4], by simp [e5]⟩
set_option maxRecDepth 100000 in
theorem sp_of_trod {H : Type} {enc : TypeId × Value → H} {W : World} {base : Nat} {held : Bool} {fuel : Nat} {a : Addr} {cs : List Value} {x : DataW H × List MemPlace} (hc : W.cells? base a 16 = some cs) (h : DataW.trod enc Tryz.prog W base (fun _ => true) held fuel 41 cs = some x) :
    ∃ s : Sp, ∃ b o, a = ⟨b, o, none⟩ ∧ SpAt W b o s := by
  obtain ⟨f0, f1, hs, ⟨o0, t0⟩⟩ := Tryz.s10_struct
  obtain ⟨xs, n, _, hx, hlen, hxl, hf⟩ := DataW.trod_struct hs h
  obtain ⟨_, hl5, hcell⟩ := World.cells?_some hc
  match xs, hxl with
  | [y0, y1], _ =>
    have g0 := hf 0 f0 rfl
    rw [o0, t0, Tryz.ck_s7] at g0
    simp only [List.drop_zero, List.getElem?_cons_zero] at g0
    obtain ⟨s, hk, e0, e2, e3, e4⟩ := sp7_of_trod (by rw [List.length_take]; omega) g0
    rw [List.getElem?_take, if_pos (by omega)] at e0 e2 e3 e4
    have h0 := hcell 0 (by omega)
    obtain ⟨b, o, rfl⟩ := addr_plain (h0.trans e0)
    have gc : ∀ i v, cs[i]? = some v → i < 16 → W.cell? ⟨b, o + i, none⟩ = some v := fun i v hv hi => by
      have h1 := hcell i hi
      rw [Addr.add_lit] at h1
      rw [h1]
      exact hv
    exact ⟨s, b, o, rfl, gc 0 _ e0 (by omega), gc 2 _ e2 (by omega), gc 3 _ e3 (by omega), gc 4 _ e4 (by omega), hk⟩
set_option maxRecDepth 100000 in
theorem sps_of_trod {H : Type} {enc : TypeId × Value → H} {W : World} {base : Nat} {held : Bool} {fuel : Nat} {c : Value} {x : DataW H × List MemPlace} (h : DataW.trod enc Tryz.prog W base (fun _ => true) held fuel 23 [c] = some x) :
    ∃ ss : List Sp, Sps W c ss := by
  rcases Go.Deep.open_slice Tryz.underlying23 h with ⟨hcs, _⟩ | ⟨a, len, cap, m, n, D, Pl, hcs, _, hl, hm, hmm, hx, hV⟩
  · simp at hcs
    subst hcs
    exact ⟨[], none, 0, rfl, by simp, fun h => by simp at h⟩
  · simp at hcs
    subst hcs
    simp only [if_true] at hmm
    rw [Tryz.ck_s10] at hV
    obtain ⟨F, hF⟩ := Go.Deep.choose_lt (α := Sp) (p := fun i s => ∃ b o, a.add (i * 16) = ⟨b, o, none⟩ ∧ SpAt W b o s) (n := len) (fun i hi => by
      obtain ⟨cs', h1, h2⟩ := hV i (by omega)
      exact sp_of_trod h1 h2)
    have hl2 : ((List.range len).map F).length = len := by simp
    unfold maxLen at hm
    refine ⟨(List.range len).map F, some a, cap, by rw [hl2], by rw [hl2]; omega, fun hpos => ?_⟩
    rw [hl2] at hpos
    obtain ⟨b, o, e1, h1⟩ := hF 0 hpos
    have ha : ∃ b o, a = ⟨b, o, none⟩ := by
      obtain ⟨ab, ao, asp⟩ := a
      rw [Nat.zero_mul] at e1
      have := congrArg Addr.spot e1
      simp [Addr.add] at this
      cases asp with
      | none => exact ⟨ab, ao, rfl⟩
      | some z => simp at this
    obtain ⟨b', o', rfl⟩ := ha
    refine ⟨b', o', rfl, fun i hi => ?_⟩
    rw [hl2] at hi
    obtain ⟨b2, o2, e2, h2⟩ := hF i hi
    rw [Addr.add_lit] at e2
    simp only [Addr.mk.injEq, and_true] at e2
    obtain ⟨rfl, rfl⟩ := e2
    simpa [hi] using h2
end Go.Proofs.YtgbkihkefdoddaaGreatDoor.St
