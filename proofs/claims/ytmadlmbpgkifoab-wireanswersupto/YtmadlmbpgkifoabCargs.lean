/- A slice of calls that came in. -/
import Derived.Test.YtmadlmbpgkifoabBulk
namespace Go.Proofs.Ytmadlmbpgkifoab
open Go.ChangeShapes Go.WideShapes Go.ChangeAt Go.RowKit

/-- One call, as values. -/
structure CallV where
  kind : Int
  n : Int
  i : Int
  s : ByteArray
  most : Int

def CallV.fine (c : CallV) : Prop := (-9223372036854775808 ≤ c.n ∧ c.n ≤ 9223372036854775807) ∧ (-9223372036854775808 ≤ c.i ∧ c.i ≤ 9223372036854775807) ∧ (-9223372036854775808 ≤ c.most ∧ c.most ≤ 9223372036854775807) ∧ c.s.size ≤ 1048576

/-- Where a call's five cells lie. -/
def CellsAt (w : World) (b o : Nat) (c : CallV) : Prop :=
  w.cell? ⟨b, o, none⟩ = some (.int .i64 c.kind) ∧ w.cell? ⟨b, o + 1, none⟩ = some (.int .i64 c.n) ∧ w.cell? ⟨b, o + 2, none⟩ = some (.int .i64 c.i) ∧ w.cell? ⟨b, o + 3, none⟩ = some (.string c.s) ∧ w.cell? ⟨b, o + 4, none⟩ = some (.int .i64 c.most)

theorem CellsAt.below {w W : World} {N b o : Nat} {c : CallV} (h : CellsAt w b o c) (hb : Below N w W) (hN : N = w.heap.size) : CellsAt W b o c := by
  subst hN
  have hlt := World.block_lt_of_cell? w _ h.1
  have e : ∀ j, W.cell? ⟨b, j, none⟩ = w.cell? ⟨b, j, none⟩ := fun j => hb.cell (p := ⟨b, j, none⟩) hlt
  unfold CellsAt
  rw [e, e, e, e, e]
  exact h

def noCall : CallV := ⟨0, 0, 0, .empty, 0⟩

/-- Calls that can be read at a slice. -/
def Cls (w : World) (v : Value) (cs : List CallV) : Prop :=
  ∃ ao cap, v = .slice ao cs.length cap ∧ cs.length ≤ 1048576 ∧ (∀ c ∈ cs, c.fine) ∧ (cs ≠ [] → ∃ (b off : Nat), ao = some ⟨b, off, none⟩ ∧ ∀ i, i < cs.length → CellsAt w b (off + i * 5) (cs.getD i noCall))

theorem Try.cells32 : Try.prog.cellsOf 28 = 5 := by kernel_rfl
theorem Try.cells9 : Try.prog.cellsOf 9 = 1 := by kernel_rfl
theorem Try.cells2 : Try.prog.cellsOf 2 = 1 := by kernel_rfl
set_option maxRecDepth 100000 in
theorem Try.call_struct : ∃ f0 f1 f2 f3 f4 : Field, Try.prog.underlying 28 = some (.struct #[f0, f1, f2, f3, f4]) ∧ (f0.offset = 0 ∧ f0.type = 3) ∧ (f1.offset = 1 ∧ f1.type = 3) ∧ (f2.offset = 2 ∧ f2.type = 2) ∧ (f3.offset = 3 ∧ f3.type = 9) ∧ (f4.offset = 4 ∧ f4.type = 3) :=
  ⟨_, _, _, _, _, Try.underlying28, ⟨rfl, rfl⟩, ⟨rfl, rfl⟩, ⟨rfl, rfl⟩, ⟨rfl, rfl⟩, ⟨rfl, rfl⟩⟩

set_option maxRecDepth 100000 in
theorem call_of_trod {H : Type} {enc : TypeId × Value → H} {W : World} {base : Nat} {spare : Nat → Bool} {held : Bool} {fuel : Nat} {a : Addr} {cs : List Value} {x : DataW H × List MemPlace} (hc : W.cells? base a 5 = some cs) (h : DataW.trod enc Try.prog W base spare held fuel 28 cs = some x) (hb : Rows.uptoBulk x.1 ≤ 1048576) :
    ∃ c : CallV, c.fine ∧ ∃ b o, a = ⟨b, o, none⟩ ∧ CellsAt W b o c := by
  obtain ⟨f0, f1, f2, f3, f4, hs, ⟨o0, t0⟩, ⟨o1, t1⟩, ⟨o2, t2⟩, ⟨o3, t3⟩, ⟨o4, t4⟩⟩ := Try.call_struct
  obtain ⟨xs, n, _, hx, hlen, hxl, hf⟩ := DataW.trod_struct hs h
  obtain ⟨_, hl5, hcell⟩ := World.cells?_some hc
  match cs, hl5 with
  | [c0, c1, c2, c3, c4], _ =>
    match xs, hxl with
    | [y0, y1, y2, y3, y4], _ =>
      have g0 := hf 0 f0 rfl
      have g1 := hf 1 f1 rfl
      have g2 := hf 2 f2 rfl
      have g3 := hf 3 f3 rfl
      have g4 := hf 4 f4 rfl
      rw [o0, t0, Try.cells3] at g0
      rw [o1, t1, Try.cells3] at g1
      rw [o2, t2, Try.cells2] at g2
      rw [o3, t3, Try.cells9] at g3
      rw [o4, t4, Try.cells3] at g4
      simp only [List.drop_succ_cons, List.drop_zero, List.take_succ_cons, List.take_zero, List.getElem?_cons_zero, List.getElem?_cons_succ] at g0 g1 g2 g3 g4
      obtain ⟨n0, e0, _, _⟩ := DataW.trod_int Try.underlying3 g0
      obtain ⟨n1, e1, _, w1⟩ := DataW.trod_int Try.underlying3 g1
      obtain ⟨n2, e2, _, w2⟩ := DataW.trod_int Try.underlying2 g2
      obtain ⟨s3, e3, z3, _⟩ := DataW.trod_string Try.underlying9 g3
      obtain ⟨n4, e4, _, w4⟩ := DataW.trod_int Try.underlying3 g4
      simp only [List.cons.injEq, and_true] at e0 e1 e2 e3 e4
      subst e0 e1 e2 e3 e4
      have h0 := hcell 0 (by omega)
      have h1 := hcell 1 (by omega)
      have h2 := hcell 2 (by omega)
      have h3 := hcell 3 (by omega)
      have h4 := hcell 4 (by omega)
      obtain ⟨b, o, rfl⟩ := addr_plain h0
      rw [Addr.add_lit] at h0 h1 h2 h3 h4
      have hss : s3.size ≤ 1048576 := by
        rw [hx] at hb
        simp only [List.map_cons, List.map_nil] at hb
        have h5 := bulk_mem (H := H) (show y3.1 ∈ [y0.1, y1.1, y2.1, y3.1, y4.1] by simp)
        rw [z3] at h5 hb
        simp only [Rows.uptoBulk] at h5 hb
        have e : s3.data.toList.length = s3.size := by rw [Array.length_toList]; rfl
        omega
      exact ⟨⟨n0, n1, n2, s3, n4⟩, ⟨bounds_i64 w1, bounds_i64 w2, bounds_i64 w4, hss⟩, b, o, rfl, h0, h1, h2, h3, h4⟩

set_option maxRecDepth 100000 in
theorem cls_of_trod {H : Type} {enc : TypeId × Value → H} {W : World} {base : Nat} {held : Bool} {fuel : Nat} {a0 : Option Addr} {len cap : Nat} {x : DataW H × List MemPlace} (h : DataW.trod enc Try.prog W base (fun _ => true) held fuel 22 [.slice a0 len cap] = some x) (hb : Rows.uptoBulk x.1 ≤ 1048576) :
    ∃ cs : List CallV, Cls W (.slice a0 len cap) cs := by
  rcases Go.Deep.open_slice Try.underlying22 h with ⟨hcs, _⟩ | ⟨a, len', cap', m, n, D, Pl, hcs, _, hl, hm, hmm, hx, hV⟩
  · simp at hcs
    obtain ⟨rfl, rfl, rfl⟩ := hcs
    exact ⟨[], ⟨none, 0, rfl, by simp, by simp, fun h => absurd rfl h⟩⟩
  · simp at hcs
    obtain ⟨rfl, rfl, rfl⟩ := hcs
    simp only [if_true] at hmm
    rw [Try.cells32] at hV
    have hsl : Rows.uptoBulkAll ((List.range len).map D) + 1 ≤ 1048576 := by
      rw [hx] at hb
      exact Nat.le_trans (bulk_slice _ _) hb
    have hlen := bulk_len ((List.range len).map D)
    rw [List.length_map, List.length_range] at hlen
    haveI : Inhabited CallV := ⟨noCall⟩
    obtain ⟨F, hF⟩ := Go.Deep.choose_lt (α := CallV) (p := fun i c => c.fine ∧ ∃ b o, a.add (i * 5) = ⟨b, o, none⟩ ∧ CellsAt W b o c) (n := len) (fun i hi => by
      obtain ⟨cs', h1, h2⟩ := hV i (by omega)
      have h3 := bulk_mem (List.mem_map.2 ⟨i, List.mem_range.2 hi, rfl⟩ : D i ∈ (List.range len).map D)
      exact call_of_trod h1 h2 (by show Rows.uptoBulk (D i) ≤ 1048576; omega))
    refine ⟨(List.range len).map F, some a, cap, by simp, by simp; omega, ?_, fun hne => ?_⟩
    · intro c hc
      obtain ⟨i, hi, rfl⟩ := List.mem_map.1 hc
      exact (hF i (List.mem_range.1 hi)).1
    · have hpos : 0 < len := by
        rcases Nat.eq_zero_or_pos len with h0 | h0
        · subst h0
          simp at hne
        · exact h0
      obtain ⟨_, b, o, e0, hc0⟩ := hF 0 hpos
      obtain ⟨ab, ao, sp⟩ := a
      have hsp : sp = none := by
        have := congrArg Addr.spot e0
        simpa [Addr.add] using this
      subst hsp
      refine ⟨ab, ao, rfl, fun i hi => ?_⟩
      simp at hi
      obtain ⟨_, b', o', e1, hc⟩ := hF i hi
      rw [Addr.add_lit] at e1
      simp only [Addr.mk.injEq, and_true] at e1
      obtain ⟨rfl, rfl⟩ := e1
      simpa [List.getD, hi] using hc
end Go.Proofs.Ytmadlmbpgkifoab
