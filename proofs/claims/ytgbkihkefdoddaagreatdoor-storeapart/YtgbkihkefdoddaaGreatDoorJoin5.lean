/- table: the contract of what All hands out. -/
import Derived.RangeFuncNested
import Derived.RangeFuncBound
import Derived.RangeFuncCalls
import Derived.RangeFuncLeaves
import Derived.RangeFuncBox
import Derived.Shelf.Abstract
import Derived.Shelf.RegionOpen
import Derived.OwnWalkIn
import Derived.TacticsInMore
import Derived.LoopNIn
import Derived.LoopIn
import Derived.Maps.AppendAt
import Derived.Test.YtgbkihkefdoddaaGreatDoorJoin4
namespace Go.Proofs.YtgbkihkefdoddaaGreatDoor.R
open Go.RowKit Go.Shelf

attribute [local go_sem] Oper.semAt_some

/-- What a round is handed. -/
def encV (e : En) : Array Value := #[.string e.1, (fun x : Rw => .agg #[.int .i64 x.v, .string x.k, .int .i64 x.s, .pointer x.p]) e.2]
def ez : En := (none8, rz)

/-- The entries that a sequence goes over: the slice's variable at N, the row at S. -/
structure Sq (w : World) (N S cap : Nat) (L : List En) : Prop where
  cell : w.heap[N]? = some (.cells #[.slice (some ⟨S, 0, none⟩) L.length cap] 197 (0, 0))
  row : ∀ i, i < L.length → w.cell? ⟨S, i * 5, none⟩ = some (.string (L.getD i ez).1) ∧ w.cell? ⟨S, i * 5 + 1, none⟩ = some (.int .i64 (L.getD i ez).2.v) ∧ w.cell? ⟨S, i * 5 + 2, none⟩ = some (.string (L.getD i ez).2.k) ∧ w.cell? ⟨S, i * 5 + 3, none⟩ = some (.int .i64 (L.getD i ez).2.s) ∧ w.cell? ⟨S, i * 5 + 4, none⟩ = some (.pointer (L.getD i ez).2.p)
  len : L.length ≤ 2199023255552
  blk : ∃ cs, w.heap[S]? = some (.cells cs 193 (0, 0))
theorem Sq.fr {w w' : World} {T : Nat → Prop} {N S cap : Nat} {L : List En} (h : Sq w N S cap L) (hf : Fr w w' T) (hN : ¬ T N) (hS : ¬ T S) : Sq w' N S cap L := by
  obtain ⟨cs, hcs⟩ := h.blk
  have hb := hf.block S (lt_of_block hcs) hS
  refine ⟨(hf.block N (lt_of_block h.cell) hN).trans h.cell, fun i hi => ?_, h.len, ⟨cs, hb.trans hcs⟩⟩
  rw [World.cell?_of_block (w := w) (a := ⟨S, i * 5, none⟩) hb, World.cell?_of_block (w := w) (a := ⟨S, i * 5 + 1, none⟩) hb, World.cell?_of_block (w := w) (a := ⟨S, i * 5 + 2, none⟩) hb, World.cell?_of_block (w := w) (a := ⟨S, i * 5 + 3, none⟩) hb, World.cell?_of_block (w := w) (a := ⟨S, i * 5 + 4, none⟩) hb]
  exact h.row i hi
theorem eg_take {α : Type} {Ls : List α} {k : Nat} {x : α} (h : Ls[k]? = some x) : Ls.take (k + 1) = Ls.take k ++ [x] := by rw [List.take_add_one, h]; rfl

/-- What a round is handed, of things that stand for entries. -/
def encG {α : Type} (g : α → En) (x : α) : Array Value := encV (g x)
/-- Their entries (a name of one's own). -/
def vals {α : Type} (g : α → En) (l : List α) : List En := l.map g
theorem vals_length {α : Type} (g : α → En) (l : List α) : (vals g l).length = l.length := List.length_map ..
theorem eo_get {α : Type} {g : α → En} {Ls : List α} {k : Nat} {x : α} (h : Ls[k]? = some x) : (vals g Ls).getD k ez = g x := by simp [vals, List.getD, h]

/-- What a round must keep: the entries. -/
def KS (N S cap : Nat) (L : List En) (A C : World) : Prop := Sq A N S cap L → Sq C N S cap L
theorem Sq.alloc {W : World} {N S cap : Nat} {L : List En} (h : Sq W N S cap L) (o : Obj) : Sq (W.alloc o) N S cap L := h.fr (alloc_fr W o (fun _ => False)) (fun h => h) (fun h => h)
theorem Sq.putObj {W : World} {N S cap l : Nat} {L : List En} {o : Obj} (h : Sq W N S cap L) (o' : Obj) (hl : W.heap[l]? = some o) (ho : o.isCells = false) : Sq (W.putObj l o') N S cap L := by
  have hg := grownBy_putObj' W l o'
  have hf : Fr W (W.putObj l o') (fun k => k = l) := (Fr.refl W (fun k => k = l)).grown hg (fun k _ e => by cases e; rfl)
  obtain ⟨cs, hcs⟩ := h.blk
  refine h.fr hf (fun e => ?_) (fun e => ?_)
  · subst e
    rw [h.cell] at hl
    cases hl
    cases ho
  · subst e
    rw [hcs] at hl
    cases hl
    cases ho

set_option maxRecDepth 100000 in
set_option maxHeartbeats 2000000 in
theorem seq_in {α : Type} {g : α → En} (F : Fence) (n : Nat) (h7 : F.fn 141) (hro : F.round = none) (hn : 1 ≤ n) (l N S cap : Nat) (Ls : List α) (J Jx : List α → World → Prop)
    (hY : ∀ pre x W, J pre W → pre.length < Ls.length → YieldAt F (n - 1) Tryz.prog l (encG g x) W fun e W' =>
      (e = .returned (.bool true) ∧ J (pre ++ [x]) W' ∧ KS N S cap (vals g Ls) W W') ∨ (e = .returned (.bool false) ∧ Jx (pre ++ [x]) W'))
    (W : World) (hJa : AbidesFrom W.heap.size J) (hq : Sq W N S cap (vals g Ls)) (h0 : J [] W) :
    CallsIn F n Tryz.prog 141 #[.func (.yield l) #[] #[], .pointer (some ⟨N, 0, none⟩)] W fun e W' => (∃ v, e = .returned v) ∧
      ((∃ ys, ys = Ls ∧ J ys W') ∨ (∃ pre, pre <+: Ls ∧ Jx pre W')) := by
  have hc := cell_of_one hq.cell
  have HQ := hid hq
  have hlb := hq.len
  have hlen : (vals g Ls).length = Ls.length := vals_length g Ls
  rw [hlen] at hc hlb
  have hNl : N < W.heap.size := lt_of_block hq.cell
  refine callsIn_of_wp Tryz.func141 rfl h7 ?_ hro
  simp only [Tryz.ntmps141, List.size_toArray, List.length_cons, List.length_nil, Nat.reduceAdd, Nat.reduceSub, Array.replicate_succ, Array.replicate_zero, List.push_toArray, List.append_toArray, List.nil_append, List.cons_append]
  gi_wp2
  gi_loopw [7] (fun i wr => ∃ k : Nat, k ≤ Ls.length ∧ i = .int .i64 k ∧ J (Ls.take k) wr ∧ Sq wr N S cap (vals g Ls))
    (fun i _ => Ls.length - (intOf i).toNat)
  case atStart => exact ⟨0, Nat.zero_le _, rfl, h0, HQ.out⟩
  case round =>
    obtain ⟨k, hk, rfl, hJs, hnx⟩ := hrel
    by_cases hlt : k < Ls.length
    · obtain ⟨x, hx⟩ : ∃ x, Ls[k]? = some x := ⟨_, List.getElem?_eq_getElem hlt⟩
      have hg := eo_get (g := g) hx
      obtain ⟨d0, d1, d2, d3, d4⟩ := hnx.row k (by rw [hlen]; exact hlt)
      rw [hg] at d0 d1 d2 d3 d4
      have hSl : S < wr.heap.size := World.block_lt_of_cell? wr _ d0
      obtain ⟨⟨key, z⟩, hgx⟩ : ∃ y, g x = y := ⟨_, rfl⟩
      rw [hgx] at d0 d1 d2 d3 d4
      dsimp only at d0 d1 d2 d3 d4
      have hJ1 : J (Ls.take k) (wr.alloc (.cells #[.string key, .int .i64 z.v, .string z.k, .int .i64 z.s, .pointer z.p] 193)) := hJa _ _ _ none hJs (World.grownBy_alloc wr _ none) (fun r e => by cases e)
      obtain ⟨fn, tmps, assign, body, hy, hR⟩ := hY _ x _ hJ1 (by rw [List.length_take]; omega)
      have t1 : (k : Int) < (Ls.length : Int) := by omega
      unfold encG encV at hy
      rw [hgx] at hy
      dsimp only at hy
      clear hg hgx
      have HB := hid (hnx.alloc (.cells #[.string key, .int .i64 z.v, .string z.k, .int .i64 z.s, .pointer z.p] 193))
      clear hnx
      have HT := hid (eg_take hx)
      clear hx
      gi_wp2
      refine hR.mono ?_
      rintro e W3 (⟨rfl, hJ3, hk3⟩ | ⟨rfl, hJx3⟩)
      · gi_wp2
        go_roundw
        case rel => exact ⟨k + 1, by omega, by simp, by rw [HT.out]; exact hJ3, hk3 HB.out⟩
        case measure => simp [intOf]; omega
      · gi_wp2
        refine bodyPost_ret (results_none rfl _ _ _) rfl ?_
        exact ⟨⟨_, rfl⟩, .inr ⟨_, ⟨Ls.drop (k + 1), by rw [← HT.out, List.take_append_drop]⟩, hJx3⟩⟩
    · have t1 : ¬ (k : Int) < (Ls.length : Int) := by omega
      have HE := hid (show k = Ls.length by omega)
      gi_wp2
      go_end0
      refine ⟨⟨_, rfl⟩, .inl ?_⟩
      have := hJs
      rw [HE.out, List.take_length] at this
      exact this

/-- What All hands out: all of the entries, in their order, or a front of them. -/
theorem seq_stops {α : Type} {g : α → En} (F : Fence) (n : Nat) (h7 : F.fn 141) (hro : F.round = none) (hn : 1 ≤ n) (N S cap : Nat) (Ls : List α) (w : World) (hq : Sq w N S cap (vals g Ls)) :
    SeqStopsK F n Tryz.prog 141 #[.pointer (some ⟨N, 0, none⟩)] (encG g) (KS N S cap (vals g Ls)) (fun ys => ys = Ls) (fun pre => pre <+: Ls) Ls.length w := fun l J Jx W hW hJa _ hY h0 =>
  seq_in F n h7 hro hn l N S cap Ls J Jx hY W hJa (hq.fr (Fr.ofBelow hW : Fr w W (fun _ => False)) (fun h => h) (fun h => h)) h0
end Go.Proofs.YtgbkihkefdoddaaGreatDoor.R
