/- A table's rows in memory: blocks of places, three cells a place. -/
import Derived.Test.YtcjadgnefojjgabDoorTPure3
import Derived.Test.YtcjadgnefojjgabDoorMem
import Derived.Test.YtcjadgnefojjgabDoorRows
import Derived.WalkKit
import Derived.Below
import Derived.Laws.Bits64
import Derived.Laws.MakeOwn
import Derived.Deep.OwnRows
import Derived.Deep.RegionWith
import Derived.Deep.RegionHeld3
import Derived.Deep.LoopGhost
import Derived.BigQuiet
namespace Go.Proofs.YtcjadgnefojjgabDoor
open Go.RowKit

theorem hid {p : Prop} (h : p) : Hid p := h
/-- Behind a call that turns nothing old, every old cell reads as before. -/
theorem fr_rules {a w' : World} (h : Fr a w' (fun _ => False)) : (∀ b o, b < a.heap.size → w'.cell? ⟨b, o, none⟩ = a.cell? ⟨b, o, none⟩) ∧ (∀ b o, b < a.heap.size → w'.frozen? ⟨b, o, none⟩ = a.frozen? ⟨b, o, none⟩) := by
  have hb : Below a.heap.size a w' := h.below (Nat.le_refl _) (fun _ h => h.elim)
  exact ⟨fun b o h => hb.cell (p := ⟨b, o, none⟩) h, fun b o h => hb.frozen (p := ⟨b, o, none⟩) h⟩
theorem heap_last (w : World) (o : Obj) (k : Nat) (h : w.heap.size = k) : (w.alloc o).heap[k]? = some o := by subst h; exact heap_alloc_new w o

/-- Places as values. -/
def pc : List Pl → List Value
  | [] => []
  | x :: L => .int .u8 (x.st : Int) :: .string x.key :: x.val :: pc L
theorem pc_append (a b : List Pl) : pc (a ++ b) = pc a ++ pc b := by
  induction a with
  | nil => rfl
  | cons x a ih => simp [pc, ih]
theorem pc_length (L : List Pl) : (pc L).length = L.length * 3 := by
  induction L with
  | nil => rfl
  | cons x L ih => simp only [pc, List.length_cons, ih]; omega
theorem pc_get : ∀ (L : List Pl) (i : Nat), i < L.length → (pc L)[i * 3]? = some (.int .u8 ((at' L i).st : Int)) ∧ (pc L)[i * 3 + 1]? = some (.string (at' L i).key) ∧ (pc L)[i * 3 + 2]? = some (at' L i).val
  | [], i, h => by simp at h
  | x :: L, 0, _ => ⟨rfl, rfl, rfl⟩
  | x :: L, i + 1, h => by
    have := pc_get L i (by simpa using h)
    rw [show (i + 1) * 3 = i * 3 + 3 by omega]
    simpa [pc, at'] using this
theorem pc_set : ∀ (L : List Pl) (i : Nat) (x : Pl), i < L.length → pc (L.set i x) = (((pc L).set (i * 3) (.int .u8 (x.st : Int))).set (i * 3 + 1) (.string x.key)).set (i * 3 + 2) x.val
  | [], i, x, h => by simp at h
  | y :: L, 0, x, _ => rfl
  | y :: L, i + 1, x, h => by
    have := pc_set L i x (by simpa using h)
    rw [show (i + 1) * 3 = i * 3 + 3 by omega]
    simp [pc, this]

/-- A block that holds places, and more behind them. -/
def RowG (e : TypeId) (w : World) (g : Nat) (L : List Pl) (rest : List Value) : Prop := w.heap[g]? = some (.cells (pc L ++ rest).toArray e (0, 0))
theorem RowG.lt {e : TypeId} {w : World} {g : Nat} {R : List Pl} {rest : List Value} (h : RowG e w g R rest) : g < w.heap.size := lt_of_block h
theorem RowG.fr {e : TypeId} {w w' : World} {S : Nat → Prop} {g : Nat} {R : List Pl} {rest : List Value} (h : RowG e w g R rest) (hf : Fr w w' S) (hS : ¬ S g) : RowG e w' g R rest := by
  unfold RowG
  rw [hf.block g h.lt hS]
  exact h
theorem RowG.free {e : TypeId} {w : World} {g : Nat} {R : List Pl} {rest : List Value} (h : RowG e w g R rest) (o : Nat) : w.frozen? ⟨g, o, none⟩ = false := by
  have h' : w.heap[g]? = some (.cells (pc R ++ rest).toArray e (0, 0)) := h
  simp [World.frozen?, h']
theorem RowG.cells {e : TypeId} {w : World} {g : Nat} {R : List Pl} {rest : List Value} (h : RowG e w g R rest) (i : Nat) (hi : i < R.length) : w.cell? ⟨g, i * 3, none⟩ = some (.int .u8 ((at' R i).st : Int)) ∧ w.cell? ⟨g, i * 3 + 1, none⟩ = some (.string (at' R i).key) ∧ w.cell? ⟨g, i * 3 + 2, none⟩ = some (at' R i).val := by
  obtain ⟨h1, h2, h3⟩ := pc_get R i hi
  have hl := pc_length R
  refine ⟨?_, ?_, ?_⟩
  · rw [cell_of_row w g _ _ _ (0, 0) h]
    simp [List.getElem?_append_left (show i * 3 < (pc R).length by omega), h1]
  · rw [cell_of_row w g _ _ _ (0, 0) h]
    simp [List.getElem?_append_left (show i * 3 + 1 < (pc R).length by omega), h2]
  · rw [cell_of_row w g _ _ _ (0, 0) h]
    simp [List.getElem?_append_left (show i * 3 + 2 < (pc R).length by omega), h3]
/-- The world behind a place's store. -/
def set3 (w : World) (g o : Nat) (x : Pl) : World := ((w.setCell ⟨g, o, none⟩ (.int .u8 (x.st : Int))).setCell ⟨g, o + 1, none⟩ (.string x.key)).setCell ⟨g, o + 2, none⟩ x.val
theorem RowG.set {e : TypeId} {w : World} {g : Nat} {R : List Pl} {rest : List Value} (h : RowG e w g R rest) (i : Nat) (hi : i < R.length) (x : Pl) : RowG e (set3 w g (i * 3) x) g (R.set i x) rest := by
  have h1 := heap_setCell_same w g (i * 3) _ _ (.int .u8 (x.st : Int)) h
  have h2 := heap_setCell_same _ g (i * 3 + 1) _ _ (.string x.key) h1
  have h3 := heap_setCell_same _ g (i * 3 + 2) _ _ x.val h2
  unfold RowG set3
  rw [h3, pc_set R i x hi]
  have hl := pc_length R
  congr 2
  apply Array.ext'
  simp only [Array.toList_setIfInBounds]
  rw [List.set_append_left _ _ (by omega), List.set_append_left _ _ (by simp; omega), List.set_append_left _ _ (by simp; omega)]
theorem RowG.other {e : TypeId} {w : World} {g o : Nat} {g' : Nat} {R : List Pl} {rest : List Value} (h : RowG e w g R rest) (hne : g' ≠ g) (x : Pl) : RowG e (set3 w g' o x) g R rest := by
  unfold RowG set3
  rw [Below.heap_setCell _ _ _ _ (fun e => hne e.symm), Below.heap_setCell _ _ _ _ (fun e => hne e.symm), Below.heap_setCell _ _ _ _ (fun e => hne e.symm)]
  exact h
theorem RowG.setv {e : TypeId} {w : World} {g : Nat} {R : List Pl} {rest : List Value} (h : RowG e w g R rest) (i : Nat) (hi : i < R.length) (v : Value) : RowG e (w.setCell ⟨g, i * 3 + 2, none⟩ v) g (putIn R i v) rest := by
  have h1 := heap_setCell_same w g (i * 3 + 2) _ _ v h
  obtain ⟨c0, c1, _⟩ := pc_get R i hi
  unfold RowG putIn
  rw [h1, pc_set R i _ hi]
  have hl := pc_length R
  congr 2
  apply Array.ext'
  simp only [Array.toList_setIfInBounds]
  rw [List.set_append_left _ _ (by omega)]
  have e0 : (pc R).set (i * 3) (.int .u8 ((at' R i).st : Int)) = pc R := by
    apply List.ext_getElem?
    intro j
    rw [List.getElem?_set]
    split
    · rename_i e; subst e
      rw [c0]
      split
      · rfl
      · omega
    · rfl
  have e1 : (pc R).set (i * 3 + 1) (.string (at' R i).key) = pc R := by
    apply List.ext_getElem?
    intro j
    rw [List.getElem?_set]
    split
    · rename_i e; subst e
      rw [c1]
      split
      · rfl
      · omega
    · rfl
  rw [e0, e1]
theorem set3_fr (w : World) (g o : Nat) (x : Pl) {a : World} {S : Nat → Prop} (h : Fr a w S) (hg : g < a.heap.size → S g) : Fr a (set3 w g o x) S :=
  ((h.setCell (p := ⟨g, o, none⟩) hg _).setCell (p := ⟨g, o + 1, none⟩) hg _).setCell (p := ⟨g, o + 2, none⟩) hg _
/-- What make lays. -/
theorem pc_rep (z : Value) (n : Nat) : (madeCells #[.int .u8 0, .string none8, z] (n * 3)) = (pc (List.replicate n (pz z))).toArray := by
  apply Array.ext
  · rw [size_madeCells]
    simp [pc_length]
  · intro i h1 h2
    rw [size_madeCells] at h1
    have hl : (List.replicate n (pz z)).length = n := by simp
    have hq : i / 3 < n := by omega
    obtain ⟨c0, c1, c2⟩ := pc_get (List.replicate n (pz z)) (i / 3) (by rw [hl]; exact hq)
    rw [at_rep z hq] at c0 c1 c2
    have hm : i % 3 = 0 ∨ i % 3 = 1 ∨ i % 3 = 2 := by omega
    have hg : (pc (List.replicate n (pz z)))[i]? = some (#[Value.int .u8 0, .string none8, z][i % 3]!) := by
      rcases hm with hm | hm | hm
      · rw [hm, show i = i / 3 * 3 by omega, c0]; rfl
      · rw [hm, show i = i / 3 * 3 + 1 by omega, c1]; rfl
      · rw [hm, show i = i / 3 * 3 + 2 by omega, c2]; rfl
    have h3 : (madeCells #[.int .u8 0, .string none8, z] (n * 3))[i]? = some (#[Value.int .u8 0, .string none8, z][i % 3]!) := by
      simp [madeCells, h1]
    rw [Array.getElem?_eq_getElem (by rw [size_madeCells]; exact h1)] at h3
    rw [List.getElem?_eq_getElem (by simpa using h2)] at hg
    have := (Option.some.inj h3).trans (Option.some.inj hg).symm
    rw [this]
    simp
end Go.Proofs.YtcjadgnefojjgabDoor
