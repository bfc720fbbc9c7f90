/- Numbers of 64 bits multiplied and added; aggregates and blocks: for a seat that has not agg.Right. -/
import Derived.Test.YtbhhpkbiflolfaaAPureK
import Derived.Test.YtbhhpkbiflolfaaRows
import Derived.Test.YtbhhpkbiflolfaaMem
import Derived.WalkKit
import Derived.Shelf.Bits.Mul64
import Derived.Laws.Externs
import Derived.Deep.RegionWith
import Derived.Deep.DeepCutAuto
import Derived.Deep.RegionHeld3
namespace Go.Proofs.Ytbhhpkbiflolfaa.A
open Go.RowKit

theorem conv_lo (n : Int) : IntKind.u64.wrap n = lo64 n := by rw [IntKind.wrap_u64]; rfl
structure Ag where
  c : Int
  s : Int
  lo : Int
  hi : Int
def Ag.zero : Ag := ⟨0, 0, 0, 0⟩
def Ag.ok (a : Ag) : Prop := fits a.c ∧ fits a.s ∧ fits a.lo ∧ fits a.hi
def Ag.v (a : Ag) : Value := .agg #[.int .i64 a.c, .int .i64 a.s, .int .i64 a.lo, .int .i64 a.hi]
theorem fr_rules {a w' : World} (h : Fr a w' (fun _ => False)) : (∀ b o, b < a.heap.size → w'.cell? ⟨b, o, none⟩ = a.cell? ⟨b, o, none⟩) ∧ (∀ b o, b < a.heap.size → w'.frozen? ⟨b, o, none⟩ = a.frozen? ⟨b, o, none⟩) := by
  have hb : Below a.heap.size a w' := h.below (Nat.le_refl _) (fun _ h => h.elim)
  exact ⟨fun b o h => hb.cell (p := ⟨b, o, none⟩) h, fun b o h => hb.frozen (p := ⟨b, o, none⟩) h⟩
theorem heap_last (w : World) (o : Obj) (k : Nat) (h : w.heap.size = k) : (w.alloc o).heap[k]? = some o := by subst h; exact heap_alloc_new w o
theorem fr_set4 {w w1 : World} {B : Nat} (h : Fr w w1 (fun _ => False)) (hB : w.heap.size ≤ B) (u0 u1 u2 u3 : Value) : Fr w ((((w1.setCell ⟨B, 0, none⟩ u0).setCell ⟨B, 1, none⟩ u1).setCell ⟨B, 2, none⟩ u2).setCell ⟨B, 3, none⟩ u3) (fun _ => False) :=
  (((h.setCell (fun h => by simp at h; omega) _).setCell (fun h => by simp at h; omega) _).setCell (fun h => by simp at h; omega) _).setCell (fun h => by simp at h; omega) _
theorem heap_set4 {w1 : World} {B b : Nat} (hB : b ≠ B) (u0 u1 u2 u3 : Value) : ((((w1.setCell ⟨B, 0, none⟩ u0).setCell ⟨B, 1, none⟩ u1).setCell ⟨B, 2, none⟩ u2).setCell ⟨B, 3, none⟩ u3).heap[b]? = w1.heap[b]? := by
  rw [Below.heap_setCell _ _ _ _ (by simpa using hB), Below.heap_setCell _ _ _ _ (by simpa using hB), Below.heap_setCell _ _ _ _ (by simpa using hB), Below.heap_setCell _ _ _ _ (by simpa using hB)]

def AgAt (w : World) (B : Nat) (a : Ag) : Prop := w.heap[B]? = some (.cells #[.int .i64 a.c, .int .i64 a.s, .int .i64 a.lo, .int .i64 a.hi] 46 (0, 0))
theorem AgAt.cells {w : World} {B : Nat} {a : Ag} (h : AgAt w B a) : w.cell? ⟨B, 0, none⟩ = some (.int .i64 a.c) ∧ w.cell? ⟨B, 1, none⟩ = some (.int .i64 a.s) ∧ w.cell? ⟨B, 2, none⟩ = some (.int .i64 a.lo) ∧ w.cell? ⟨B, 3, none⟩ = some (.int .i64 a.hi) ∧ ∀ o, w.frozen? ⟨B, o, none⟩ = false := by
  have h' : w.heap[B]? = some (.cells #[.int .i64 a.c, .int .i64 a.s, .int .i64 a.lo, .int .i64 a.hi] 46 (0, 0)) := h
  refine ⟨?_, ?_, ?_, ?_, fun o => ?_⟩
  · simp [World.cell?, h']
  · simp [World.cell?, h']
  · simp [World.cell?, h']
  · simp [World.cell?, h']
  · simp [World.frozen?, h']
theorem AgAt.lt {w : World} {B : Nat} {a : Ag} (h : AgAt w B a) : B < w.heap.size := lt_of_block h
theorem AgAt.fr {w w' : World} {S : Nat → Prop} {B : Nat} {a : Ag} (h : AgAt w B a) (hf : Fr w w' S) (hS : ¬ S B) : AgAt w' B a := by
  unfold AgAt
  rw [hf.block B h.lt hS]
  exact h
theorem AgAt.set {w : World} {B : Nat} {a : Ag} (h : AgAt w B a) (b : Ag) : AgAt ((((w.setCell ⟨B, 0, none⟩ (.int .i64 b.c)).setCell ⟨B, 1, none⟩ (.int .i64 b.s)).setCell ⟨B, 2, none⟩ (.int .i64 b.lo)).setCell ⟨B, 3, none⟩ (.int .i64 b.hi)) B b := by
  unfold AgAt
  rw [heap_setCell_same _ B 3 _ _ _ (heap_setCell_same _ B 2 _ _ _ (heap_setCell_same _ B 1 _ _ _ (heap_setCell_same w B 0 _ _ _ h)))]
  simp

theorem fr_set4' (w : World) (B : Nat) (u0 u1 u2 u3 : Value) : Fr w ((((w.setCell ⟨B, 0, none⟩ u0).setCell ⟨B, 1, none⟩ u1).setCell ⟨B, 2, none⟩ u2).setCell ⟨B, 3, none⟩ u3) (fun k => k = B) := by
  have h0 : Fr w w (fun k => k = B) := Fr.refl w _
  have h1 := h0.setCell (p := ⟨B, 0, none⟩) (fun _ => rfl) u0
  have h2 := h1.setCell (p := ⟨B, 1, none⟩) (fun _ => rfl) u1
  have h3 := h2.setCell (p := ⟨B, 2, none⟩) (fun _ => rfl) u2
  exact h3.setCell (p := ⟨B, 3, none⟩) (fun _ => rfl) u3

/-- Blocks that hold what they hold, and that nothing old has turned. -/
def SB (w : World) (L : List (Nat × Obj)) (W : World) : Prop := (∀ q ∈ L, W.heap[q.1]? = some q.2) ∧ Fr w W (fun _ => False)
theorem SB.step {w : World} {L : List (Nat × Obj)} {W W' : World} (h : SB w L W) (hf : Fr W W' (fun _ => False)) : SB w L W' :=
  ⟨fun q hq => by rw [hf.block q.1 (lt_of_block (h.1 q hq)) (fun h => h)]; exact h.1 q hq, h.2.trans hf⟩
theorem SB.drew {w : World} {L : List (Nat × Obj)} {W : World} (h : SB w L W) : SB w L W.drew := h.step (Fr.refl W _).drew
theorem SB.alloc {w : World} {L : List (Nat × Obj)} {W : World} (h : SB w L W) (o : Obj) : SB w L (W.alloc o) := h.step (alloc_fr W o _)
theorem SB.setCell {w : World} {L : List (Nat × Obj)} {W : World} (h : SB w L W) (p : Addr) (hp : w.heap.size ≤ p.block) (hB : ∀ q ∈ L, ¬ q.1 = p.block) (u : Value) : SB w L (W.setCell p u) :=
  ⟨fun q hq => by
    rw [((Fr.refl W (fun k => k = p.block)).setCell (fun _ => rfl) u).block q.1 (lt_of_block (h.1 q hq)) (hB q hq)]
    exact h.1 q hq, h.2.setCell (fun h => by omega) u⟩
theorem SB.lt {w : World} {L : List (Nat × Obj)} {W : World} (h : SB w L W) : w.heap.size ≤ W.heap.size := h.2.size
theorem SB.more {w : World} {L : List (Nat × Obj)} {W : World} (h : SB w L W) {b : Nat} {o : Obj} (hb : W.heap[b]? = some o) : SB w ((b, o) :: L) W :=
  ⟨fun q hq => by
    rcases List.mem_cons.1 hq with rfl | hq
    · exact hb
    · exact h.1 q hq, h.2⟩
theorem ret_bool {a b : Bool} (h : a = b) : Ending.returned (.bool a) = .returned (.bool b) := by rw [h]
/-- An aggregate's block, a wide number's. -/
def agO (a : Ag) : Obj := .cells #[.int .i64 a.c, .int .i64 a.s, .int .i64 a.lo, .int .i64 a.hi] 46 (0, 0)
end Go.Proofs.Ytbhhpkbiflolfaa.A
