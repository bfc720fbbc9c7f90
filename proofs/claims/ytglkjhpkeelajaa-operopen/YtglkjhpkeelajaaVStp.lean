/- The laws' scripts, whole: []Step with the cells inside, as an argument. -/
import Derived.Test.YtglkjhpkeelajaaVArgs
import Derived.Test.YtglkjhpkeelajaaVSame
namespace Go.Proofs.Ytglkjhpkeelajaa.V
open Go.RowKit
open M (Cl cmpC vC)

/-- A step. -/
structure Sf where
  k : Int
  s : Int
  key : ByteArray
  t : Int
  val : Int
  cv : Value
  cs : List Cl
instance : Inhabited Sf := ⟨⟨0, 0, ⟨#[]⟩, 0, 0, .slice none 0 0, []⟩⟩
/-- It, as a value; as cells at a place. -/
def sfV (x : Sf) : Value := .agg #[.int .i64 x.k, .int .i64 x.s, .string x.key, .int .i64 x.t, .int .i64 x.val, x.cv]
def SfAt (w : World) (b o : Nat) (x : Sf) : Prop := w.cell? ⟨b, o, none⟩ = some (.int .i64 x.k) ∧ w.cell? ⟨b, o + 1, none⟩ = some (.int .i64 x.s) ∧ w.cell? ⟨b, o + 2, none⟩ = some (.string x.key) ∧ w.cell? ⟨b, o + 3, none⟩ = some (.int .i64 x.t) ∧ w.cell? ⟨b, o + 4, none⟩ = some (.int .i64 x.val) ∧ w.cell? ⟨b, o + 5, none⟩ = some x.cv
theorem SfAt.step {w w' : World} {b o : Nat} {x : Sf} (h : SfAt w b o x) (hf : Fr w w' (fun _ => False)) : SfAt w' b o x := by
  obtain ⟨h0, h1, h2, h3, h4, h5⟩ := h
  have hlt : b < w.heap.size := World.block_lt_of_cell? w _ h0
  have hr := (fr_rules hf).1 b
  exact ⟨by rw [hr _ hlt]; exact h0, by rw [hr _ hlt]; exact h1, by rw [hr _ hlt]; exact h2, by rw [hr _ hlt]; exact h3, by rw [hr _ hlt]; exact h4, by rw [hr _ hlt]; exact h5⟩
/-- A slice's room is no less than its length. -/
def CapOk (v : Value) : Prop := ∀ ao n cap, v = .slice ao n cap → n ≤ cap
/-- A script that came in. -/
def Ss (w : World) (v : Value) (xs : List Sf) : Prop :=
  ∃ ao cap, v = .slice ao xs.length cap ∧ xs.length ≤ 9223372036854775807 ∧ (xs ≠ [] → ∃ b off, ao = some ⟨b, off, none⟩ ∧ ∀ i, i < xs.length → SfAt w b (off + i * 6) (xs[i]?.getD default) ∧ Ks w (xs[i]?.getD default).cv (xs[i]?.getD default).cs ∧ CapOk (xs[i]?.getD default).cv)
theorem Ss.step {w w' : World} {v : Value} {xs : List Sf} (h : Ss w v xs) (hf : Fr w w' (fun _ => False)) : Ss w' v xs := by
  obtain ⟨ao, cap, rfl, hl, hc⟩ := h
  refine ⟨ao, cap, rfl, hl, fun hne => ?_⟩
  obtain ⟨b, off, rfl, h1⟩ := hc hne
  exact ⟨b, off, rfl, fun i hi => ⟨(h1 i hi).1.step hf, (h1 i hi).2.1.step hf, (h1 i hi).2.2⟩⟩
theorem Ss.at {w : World} {ao : Option Addr} {n cap : Nat} {xs : List Sf} (h : Ss w (.slice ao n cap) xs) {i : Nat} (hi : i < xs.length) : ∃ b off, ao = some ⟨b, off, none⟩ ∧ SfAt w b (off + i * 6) (xs[i]?.getD default) ∧ Ks w (xs[i]?.getD default).cv (xs[i]?.getD default).cs ∧ CapOk (xs[i]?.getD default).cv ∧ b < w.heap.size := by
  obtain ⟨ao', cap', e, hl, hc⟩ := h
  obtain ⟨b, off, e2, h1⟩ := hc (by intro e; subst e; simp at hi)
  simp only [Value.slice.injEq] at e
  exact ⟨b, off, by rw [e.1, e2], (h1 i hi).1, (h1 i hi).2.1, (h1 i hi).2.2, World.block_lt_of_cell? w _ (h1 i hi).1.1⟩

set_option maxRecDepth 100000 in
theorem cellK_of_trod {H : Type} {enc : TypeId × Value → H} {W : World} {base : Nat} {spare : Nat → Bool} {held : Bool} {fuel : Nat} {cs : List Value} {x : DataW H × List MemPlace} (hl : cs.length = 3) (h : DataW.trod enc Try.prog W base spare held fuel 64 cs = some x) :
    ∃ c : Cl, cs = [.int .i64 c.v, .string c.k, .int .i64 c.s] := by
  obtain ⟨f0, f1, f2, hs, ⟨o0, t0⟩, ⟨o1, t1⟩, ⟨o2, t2⟩, _⟩ := cell_struct
  obtain ⟨_, ci, cs', c64⟩ := cellsC
  obtain ⟨xs, n, _, hx, hlen, hxl, hf⟩ := DataW.trod_struct hs h
  match cs, hl with
  | [d0, d1, d2], _ =>
    match xs, hxl with
    | [y0, y1, y2], _ =>
      have g0 := hf 0 f0 rfl
      have g1 := hf 1 f1 rfl
      have g2 := hf 2 f2 rfl
      rw [o0, t0, ci] at g0
      rw [o1, t1, cs'] at g1
      rw [o2, t2, c64] at g2
      simp only [List.drop_succ_cons, List.drop_zero, List.take_succ_cons, List.take_zero, List.getElem?_cons_zero, List.getElem?_cons_succ] at g0 g1 g2
      obtain ⟨n0, e0, _, w0⟩ := DataW.trod_int Try.underlying3 g0
      obtain ⟨s1, e1, _, w1⟩ := DataW.trod_string Try.underlying9 g1
      obtain ⟨n2, e2, _, w2⟩ := DataW.trod_int Try.underlying2 g2
      simp only [List.cons.injEq, and_true] at e0 e1 e2
      subst e0 e1 e2
      exact ⟨⟨n0, s1, n2⟩, rfl⟩
set_option maxRecDepth 100000 in
theorem ks_of_trod {H : Type} {enc : TypeId × Value → H} {W : World} {base : Nat} {spare : Nat → Bool} {held : Bool} {fuel : Nat} {c : Value} {x : DataW H × List MemPlace} (h : DataW.trod enc Try.prog W base spare held fuel 35 [c] = some x) :
    ∃ L : List Cl, Ks W c L ∧ CapOk c := by
  rcases Go.Deep.open_slice Try.underlying35 h with ⟨hcs, _⟩ | ⟨a, len, cap, m, n, D, Pl, hcs, _, hl, hm, hmm, hx, hV⟩
  · simp at hcs
    subst hcs
    exact ⟨[], ⟨none, 0, rfl, by simp, fun h => absurd rfl h⟩, fun ao n cap e => by cases e; omega⟩
  · simp at hcs
    subst hcs
    have hlm : len ≤ m := by rw [hmm]; split <;> omega
    rw [cellsC.1] at hV
    obtain ⟨F, hF⟩ := Go.Deep.choose_lt (α := Cl) (p := fun i r => ∃ b o, a.add (i * 3) = ⟨b, o, none⟩ ∧ W.cell? ⟨b, o, none⟩ = some (.int .i64 r.v) ∧ W.cell? ⟨b, o + 1, none⟩ = some (.string r.k) ∧ W.cell? ⟨b, o + 2, none⟩ = some (.int .i64 r.s)) (n := len) (fun i hi => by
      obtain ⟨cs', h1, h2⟩ := hV i (by omega)
      obtain ⟨_, hl3, hcell⟩ := World.cells?_some h1
      obtain ⟨c, rfl⟩ := cellK_of_trod hl3 h2
      have h0 := hcell 0 (by omega)
      have h1' := hcell 1 (by omega)
      have h2' := hcell 2 (by omega)
      obtain ⟨b, o, e⟩ := addr_plain h0
      rw [e] at h0 h1' h2'
      rw [Addr.add_lit] at h0 h1' h2'
      exact ⟨c, b, o, e, h0, h1', h2'⟩)
    refine ⟨(List.range len).map F, ⟨some a, cap, by simp, by unfold maxLen at hm; simp; omega, fun hne => ?_⟩, fun ao n cap e => by cases e; exact hl⟩
    have hpos : 0 < len := by
      rcases Nat.eq_zero_or_pos len with h0 | h0
      · subst h0
        simp at hne
      · exact h0
    obtain ⟨b, o, e0, hc0⟩ := hF 0 hpos
    obtain ⟨ab, ao, sp⟩ := a
    have hsp : sp = none := by
      have := congrArg Addr.spot e0
      simpa [Addr.add] using this
    subst hsp
    refine ⟨ab, ao, rfl, fun i hi => ?_⟩
    simp at hi
    obtain ⟨b', o', e1, hc⟩ := hF i hi
    rw [Addr.add_lit] at e1
    simp only [Addr.mk.injEq, and_true] at e1
    obtain ⟨rfl, rfl⟩ := e1
    have e2 : ((List.range len).map F)[i]?.getD default = F i := by simp [hi]
    rw [e2]
    exact hc
set_option maxRecDepth 100000 in
theorem ss_one {H : Type} {enc : TypeId × Value → H} {W : World} {base : Nat} {held : Bool} {fuel : Nat} {a : Addr} {cs : List Value} {x : DataW H × List MemPlace} (hc : W.cells? base a 6 = some cs) (h : DataW.trod enc Try.prog W base (fun _ => true) held fuel 37 cs = some x) :
    ∃ r : Sf, ∃ b o, a = ⟨b, o, none⟩ ∧ SfAt W b o r ∧ Ks W r.cv r.cs ∧ CapOk r.cv := by
  obtain ⟨f0, f1, f2, f3, f4, f5, hs, ⟨o0, t0⟩, ⟨o1, t1⟩, ⟨o2, t2⟩, ⟨o3, t3⟩, ⟨o4, t4⟩, ⟨o5, t5⟩⟩ := Try.step_struct
  obtain ⟨xs, n, _, hx, hlen, hxl, hf⟩ := DataW.trod_struct hs h
  obtain ⟨_, hl5, hcell⟩ := World.cells?_some hc
  have cKs : Try.prog.cellsOf 35 = 1 := by kernel_rfl
  match cs, hl5 with
  | [c0, c1, c2, c3, c4, c5], _ =>
    match xs, hxl with
    | [y0, y1, y2, y3, y4, y5], _ =>
      have g0 := hf 0 f0 rfl
      have g1 := hf 1 f1 rfl
      have g2 := hf 2 f2 rfl
      have g3 := hf 3 f3 rfl
      have g4 := hf 4 f4 rfl
      have g5 := hf 5 f5 rfl
      rw [o0, t0, Try.cInt] at g0
      rw [o1, t1, Try.cInt] at g1
      rw [o2, t2, Try.cStr] at g2
      rw [o3, t3, Try.cI64] at g3
      rw [o4, t4, Try.cI64] at g4
      rw [o5, t5, cKs] at g5
      simp only [List.drop_succ_cons, List.drop_zero, List.take_succ_cons, List.take_zero, List.getElem?_cons_zero, List.getElem?_cons_succ] at g0 g1 g2 g3 g4 g5
      obtain ⟨n0, e0, _, _⟩ := DataW.trod_int Try.underlying3 g0
      obtain ⟨n1, e1, _, _⟩ := DataW.trod_int Try.underlying3 g1
      obtain ⟨n2, e2, _, _⟩ := DataW.trod_string Try.underlying9 g2
      obtain ⟨n3, e3, _, _⟩ := DataW.trod_int Try.underlying2 g3
      obtain ⟨n4, e4, _, _⟩ := DataW.trod_int Try.underlying2 g4
      obtain ⟨L, hL⟩ := ks_of_trod g5
      simp only [List.cons.injEq, and_true] at e0 e1 e2 e3 e4
      subst e0 e1 e2 e3 e4
      have h0 := hcell 0 (by omega)
      have h1 := hcell 1 (by omega)
      have h2 := hcell 2 (by omega)
      have h3 := hcell 3 (by omega)
      have h4 := hcell 4 (by omega)
      have h5 := hcell 5 (by omega)
      obtain ⟨b, o, rfl⟩ := addr_plain h0
      rw [Addr.add_lit] at h0 h1 h2 h3 h4 h5
      exact ⟨⟨n0, n1, n2, n3, n4, c5, L⟩, b, o, rfl, ⟨h0, h1, h2, h3, h4, h5⟩, hL⟩
set_option maxRecDepth 100000 in
theorem ss_of_trod {H : Type} {enc : TypeId × Value → H} {W : World} {base : Nat} {held : Bool} {fuel : Nat} {c : Value} {x : DataW H × List MemPlace} (h : DataW.trod enc Try.prog W base (fun _ => true) held fuel 23 [c] = some x) :
    ∃ xs : List Sf, Ss W c xs := by
  rcases Go.Deep.open_slice Try.underlying23 h with ⟨hcs, _⟩ | ⟨a, len, cap, m, n, D, Pl, hcs, _, hl, hm, hmm, hx, hV⟩
  · simp at hcs
    subst hcs
    exact ⟨[], none, 0, rfl, by simp, fun h => absurd rfl h⟩
  · simp at hcs
    subst hcs
    simp only [if_true] at hmm
    rw [Try.cStep] at hV
    obtain ⟨F, hF⟩ := Go.Deep.choose_lt (α := Sf) (p := fun i r => ∃ b o, a.add (i * 6) = ⟨b, o, none⟩ ∧ SfAt W b o r ∧ Ks W r.cv r.cs ∧ CapOk r.cv) (n := len) (fun i hi => by
      obtain ⟨cs', h1, h2⟩ := hV i (by omega)
      exact ss_one h1 h2)
    refine ⟨(List.range len).map F, some a, cap, by simp, by unfold maxLen at hm; simp; omega, fun hne => ?_⟩
    have hpos : 0 < len := by
      rcases Nat.eq_zero_or_pos len with h0 | h0
      · subst h0
        simp at hne
      · exact h0
    obtain ⟨b, o, e0, hc0⟩ := hF 0 hpos
    obtain ⟨ab, ao, sp⟩ := a
    have hsp : sp = none := by
      have := congrArg Addr.spot e0
      simpa [Addr.add] using this
    subst hsp
    refine ⟨ab, ao, rfl, fun i hi => ?_⟩
    simp at hi
    obtain ⟨b', o', e1, hc⟩ := hF i hi
    rw [Addr.add_lit] at e1
    simp only [Addr.mk.injEq, and_true] at e1
    obtain ⟨rfl, rfl⟩ := e1
    have e2 : ((List.range len).map F)[i]?.getD default = F i := by simp [hi]
    rw [e2]
    exact hc
end Go.Proofs.Ytglkjhpkeelajaa.V
