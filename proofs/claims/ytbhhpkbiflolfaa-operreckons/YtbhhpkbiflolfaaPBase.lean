/- A view in memory, numbers in memory, and how they stand behind calls. -/
import Derived.Test.YtbhhpkbiflolfaaPPure
import Derived.Test.YtbhhpkbiflolfaaMem
import Derived.Test.YtbhhpkbiflolfaaRows
import Derived.WalkKit
import Derived.Below
import Derived.Deep.RegionWith
import Derived.Deep.RegionHeld3
import Derived.Deep.LoopGhost
import Derived.BigQuiet
namespace Go.Proofs.Ytbhhpkbiflolfaa
open Go.RowKit

theorem hid {p : Prop} (h : p) : Hid p := h
theorem wrap_fit {x : Int} (h : fits x) : IntKind.i64.wrap x = x := by unfold fits at h; rw [IntKind.wrap_i64]; omega
/-- Behind a call that turns nothing old, every old cell reads as before. -/
theorem fr_rules {a w' : World} (h : Fr a w' (fun _ => False)) : (∀ b o, b < a.heap.size → w'.cell? ⟨b, o, none⟩ = a.cell? ⟨b, o, none⟩) ∧ (∀ b o, b < a.heap.size → w'.frozen? ⟨b, o, none⟩ = a.frozen? ⟨b, o, none⟩) := by
  have hb : Below a.heap.size a w' := h.below (Nat.le_refl _) (fun _ h => h.elim)
  exact ⟨fun b o h => hb.cell (p := ⟨b, o, none⟩) h, fun b o h => hb.frozen (p := ⟨b, o, none⟩) h⟩
theorem heap_last (w : World) (o : Obj) (k : Nat) (h : w.heap.size = k) : (w.alloc o).heap[k]? = some o := by subst h; exact heap_alloc_new w o

/-- A view at a block. -/
def VwAt (w : World) (B : Nat) (s d l : Int) : Prop := w.heap[B]? = some (.cells #[.int .i64 s, .int .i64 d, .int .i64 l] 49 (0, 0))
theorem VwAt.cells {w : World} {B : Nat} {s d l : Int} (h : VwAt w B s d l) : w.cell? ⟨B, 0, none⟩ = some (.int .i64 s) ∧ w.cell? ⟨B, 1, none⟩ = some (.int .i64 d) ∧ w.cell? ⟨B, 2, none⟩ = some (.int .i64 l) := by
  have h' : w.heap[B]? = some (.cells #[.int .i64 s, .int .i64 d, .int .i64 l] 49 (0, 0)) := h
  refine ⟨?_, ?_, ?_⟩
  · simp [World.cell?, h']
  · simp [World.cell?, h']
  · simp [World.cell?, h']
theorem VwAt.lt {w : World} {B : Nat} {s d l : Int} (h : VwAt w B s d l) : B < w.heap.size := lt_of_block h
theorem VwAt.fr {w w' : World} {S : Nat → Prop} {B : Nat} {s d l : Int} (h : VwAt w B s d l) (hf : Fr w w' S) (hS : ¬ S B) : VwAt w' B s d l := by
  unfold VwAt
  rw [hf.block B h.lt hS]
  exact h
theorem VwAt.new (w : World) (s d l : Int) : VwAt (w.alloc (.cells #[.int .i64 s, .int .i64 d, .int .i64 l] 49)) w.heap.size s d l := heap_last _ _ _ rfl

/-- Numbers that can be read at a slice. -/
def Is (w : World) (v : Value) (xs : List Int) : Prop :=
  ∃ ao cap, v = .slice ao xs.length cap ∧ xs.length ≤ 140737488355328 ∧ (∀ x ∈ xs, fits x) ∧ (xs ≠ [] → ∃ (b off : Nat), ao = some ⟨b, off, none⟩ ∧ ∀ i, i < xs.length → w.cell? ⟨b, off + i, none⟩ = some (.int .i64 (xs.getD i 0)))
theorem Is.fr {w w' : World} {v : Value} {xs : List Int} (h : Is w v xs) (hf : Fr w w' (fun _ => False)) : Is w' v xs := by
  obtain ⟨ao, cap, rfl, hlen, hfit, hcell⟩ := h
  refine ⟨ao, cap, rfl, hlen, hfit, fun hne => ?_⟩
  obtain ⟨b, off, rfl, hc⟩ := hcell hne
  refine ⟨b, off, rfl, fun i hi => ?_⟩
  have h0 := hc i hi
  rw [(fr_rules hf).1 b (off + i) (World.block_lt_of_cell? w _ h0)]
  exact h0

/-- Numbers as values. -/
def iv (l : List Int) : List Value := l.map (Value.int .i64)
theorem iv_length (l : List Int) : (iv l).length = l.length := by simp [iv]
theorem iv_append (a b : List Int) : iv (a ++ b) = iv a ++ iv b := by simp [iv]
theorem iv_get (l : List Int) (j : Nat) (h : j < l.length) : (iv l)[j]? = some (.int .i64 (l.getD j 0)) := by simp [iv, List.getD, h]
theorem iv_one (l : List Int) : ∀ u ∈ iv l, u.oneCell' = true := by
  intro u hu
  simp only [iv, List.mem_map] at hu
  obtain ⟨c, _, rfl⟩ := hu
  rfl

/-- Block N holds just these values. -/
def RowV (w : World) (N : Nat) (vs : List Value) : Prop := w.heap[N]? = some (.cells vs.toArray 2 (0, 0))
theorem RowV.lt {w : World} {g : Nat} {vs : List Value} (h : RowV w g vs) : g < w.heap.size := lt_of_block h
theorem RowV.fr {w w' : World} {S : Nat → Prop} {g : Nat} {vs : List Value} (h : RowV w g vs) (hf : Fr w w' S) (hS : ¬ S g) : RowV w' g vs := by
  unfold RowV
  rw [hf.block g h.lt hS]
  exact h
theorem RowV.free {w : World} {g : Nat} {vs : List Value} (h : RowV w g vs) (o : Nat) : w.frozen? ⟨g, o, none⟩ = false := by
  have h' : w.heap[g]? = some (.cells vs.toArray 2 (0, 0)) := h
  simp [World.frozen?, h']
theorem RowV.cell {w : World} {g : Nat} {vs : List Value} (h : RowV w g vs) (j : Nat) : w.cell? ⟨g, j, none⟩ = vs[j]? := by
  rw [cell_of_row w g j _ _ (0, 0) h]
  simp
theorem RowV.set {w : World} {g : Nat} {vs : List Value} (h : RowV w g vs) (j : Nat) (u : Value) : RowV (w.setCell ⟨g, j, none⟩ u) g (vs.set j u) := by
  unfold RowV
  rw [heap_setCell_same w g j _ _ _ h]
  congr 2
  apply Array.ext'
  simp

theorem Try.info_i64 : (Try.prog.info? 2).map (fun i => (i.zero, i.size, i.bytes)) = some (some (.int .i64 0), 1, 8) := by kernel_rfl

/-- An owned row with room: its block, whole. -/
theorem own_room {w : World} {base g n cap : Nat} {vs : List Value} (h : w.ownsRow base 2 1 (.slice (some ⟨g, 0, none⟩) n cap) n vs) : ∃ rest, RowV w g (vs ++ rest) ∧ rest.length + n = cap := by
  have hl : vs.length = n := by simpa using h.1
  rcases h.2 with ⟨h', _⟩ | ⟨g', cap', cur, h', _, hg, hn, _, hcs, htake⟩
  · simp at h'
  · simp only [Value.slice.injEq, Option.some.injEq, Addr.mk.injEq, and_true, true_and] at h'
    obtain ⟨rfl, rfl⟩ := h'
    refine ⟨cur.toList.drop n, ?_, ?_⟩
    · unfold RowV
      rw [hg]
      congr 2
      apply Array.ext'
      rw [List.toList_toArray]
      have e : vs = cur.toList.take n := by rw [← htake, Nat.mul_one]
      rw [e, List.take_append_drop]
    · simp at hcs
      simp
      omega
/-- An owned row of numbers can be read. -/
theorem own_is {w : World} {base n : Nat} {v : Value} {zs : List Int} (h : w.ownsRow base 2 1 v n (iv zs)) (hf : ∀ x ∈ zs, fits x) (hl : zs.length ≤ 140737488355328) : Is w v zs := by
  have hn : zs.length = n := by have := h.1; simpa [iv] using this
  rcases h.2 with ⟨rfl, h0⟩ | ⟨g, cap, cur, rfl, _⟩
  · have : zs = [] := List.eq_nil_of_length_eq_zero (by omega)
    subst this
    exact ⟨none, 0, rfl, by simp, hf, fun h => absurd rfl h⟩
  · subst hn
    refine ⟨_, _, rfl, hl, hf, fun _ => ⟨g, 0, rfl, fun i hi => ?_⟩⟩
    have := h.cells (g := g) rfl i _ (iv_get zs i hi)
    rwa [Addr.add_lit] at this

/-- A row of a block, whole, is owned. -/
theorem rowV_own {w : World} {base g k : Nat} {vs rest : List Value} (h : RowV w g (vs ++ rest)) (hb : base ≤ g) (hk : vs.length = k) (hm : k + rest.length ≤ 140737488355328) : w.ownsRow base 2 1 (.slice (some ⟨g, 0, none⟩) k (k + rest.length)) k vs := by
  subst hk
  refine ⟨by simp, Or.inr ⟨g, vs.length + rest.length, (vs ++ rest).toArray, rfl, hb, h, by omega, by unfold maxLen; omega, by simp, by simp⟩⟩
end Go.Proofs.Ytbhhpkbiflolfaa
