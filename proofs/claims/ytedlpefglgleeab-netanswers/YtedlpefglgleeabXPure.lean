/- Records in rows: lists of cells, a record's cells taken out and laid; rings. Nothing of the program is used here. -/
import Derived.Test.YtedlpefglgleeabMem
import Derived.WalkKit
import Derived.Below
import Derived.Laws.MakeOwn
import Derived.Laws.Bits64
import Derived.Deep.OwnRows
import Derived.Deep.RegionWith
import Derived.Deep.RegionHeld3
import Derived.Deep.LoopGhost
import Derived.Deep.DeepCutAuto
import Derived.BigQuiet
namespace Go.Proofs.Ytedlpefglgleeab
open Go.RowKit

theorem hid {p : Prop} (h : p) : Hid p := h
theorem fr_rules {a w' : World} (h : Fr a w' (fun _ => False)) : (∀ b o, b < a.heap.size → w'.cell? ⟨b, o, none⟩ = a.cell? ⟨b, o, none⟩) ∧ (∀ b o, b < a.heap.size → w'.frozen? ⟨b, o, none⟩ = a.frozen? ⟨b, o, none⟩) := by
  have hb : Below a.heap.size a w' := h.below (Nat.le_refl _) (fun _ h => h.elim)
  exact ⟨fun b o h => hb.cell (p := ⟨b, o, none⟩) h, fun b o h => hb.frozen (p := ⟨b, o, none⟩) h⟩
theorem heap_last (w : World) (o : Obj) (k : Nat) (h : w.heap.size = k) : (w.alloc o).heap[k]? = some o := by subst h; exact heap_alloc_new w o
def fits (n : Int) : Prop := -9223372036854775808 ≤ n ∧ n ≤ 9223372036854775807
theorem wrap_fit {n : Int} (h : fits n) : IntKind.i64.wrap n = n := by rw [IntKind.wrap_i64]; unfold fits at h; omega

/-- Records as cells. -/
def fl {α : Type} (f : α → List Value) (L : List α) : List Value := L.flatMap f
theorem fl_nil {α : Type} (f : α → List Value) : fl f [] = [] := rfl
theorem fl_cons {α : Type} (f : α → List Value) (x : α) (L : List α) : fl f (x :: L) = f x ++ fl f L := by simp [fl]
theorem fl_append {α : Type} (f : α → List Value) (a b : List α) : fl f (a ++ b) = fl f a ++ fl f b := by simp [fl]
theorem fl_length {α : Type} {f : α → List Value} {K : Nat} (hf : ∀ x, (f x).length = K) (L : List α) : (fl f L).length = L.length * K := by
  induction L with
  | nil => simp [fl]
  | cons x L ih => rw [fl_cons, List.length_append, ih, hf, List.length_cons, Nat.succ_mul, Nat.add_comm]
theorem list_parts {α : Type} {L : List α} {i : Nat} (hi : i < L.length) (z : α) : L = L.take i ++ (L.getD i z :: L.drop (i + 1)) := by
  have h1 : L.getD i z = L[i] := by simp [List.getD, hi]
  rw [h1, List.getElem_cons_drop, List.take_append_drop]
theorem set_parts {α : Type} {L : List α} {i : Nat} (hi : i < L.length) (y : α) : L.set i y = L.take i ++ (y :: L.drop (i + 1)) := by
  rw [List.set_eq_take_append_cons_drop, if_pos hi]
/-- The cells of record i stand where they should. -/
theorem fl_parts {α : Type} (f : α → List Value) {L : List α} {i : Nat} (hi : i < L.length) (z : α) : fl f L = fl f (L.take i) ++ (f (L.getD i z) ++ fl f (L.drop (i + 1))) := by
  conv => lhs; rw [list_parts hi z]
  rw [fl_append, fl_cons]
theorem fl_set {α : Type} (f : α → List Value) {L : List α} {i : Nat} (hi : i < L.length) (y : α) : fl f (L.set i y) = fl f (L.take i) ++ (f y ++ fl f (L.drop (i + 1))) := by
  rw [set_parts hi, fl_append, fl_cons]
theorem fl_at {α : Type} {f : α → List Value} {K : Nat} (hf : ∀ x, (f x).length = K) {L : List α} {i : Nat} (hi : i < L.length) (z : α) {j : Nat} (hj : j < K) (rest : List Value) : (fl f L ++ rest)[i * K + j]? = (f (L.getD i z))[j]? := by
  have hl : (fl f (L.take i)).length = i * K := by rw [fl_length hf, List.length_take, Nat.min_eq_left (by omega)]
  have hz := hf (L.getD i z)
  rw [fl_parts f hi z, List.append_assoc, List.getElem?_append_right (by omega), hl, show i * K + j - i * K = j by omega, List.append_assoc, List.getElem?_append_left (by omega)]
theorem fl_one {α : Type} {f : α → List Value} (h : ∀ x, ∀ u ∈ f x, u.oneCell' = true) (L : List α) : ∀ u ∈ fl f L, u.oneCell' = true := by
  intro u hu
  simp only [fl, List.mem_flatMap] at hu
  obtain ⟨c, _, hc⟩ := hu
  exact h c u hc
/-- A row of just these records. -/
def Row {α : Type} (f : α → List Value) (T : TypeId) (w : World) (g : Nat) (L : List α) (rest : List Value) : Prop := w.heap[g]? = some (.cells (fl f L ++ rest).toArray T (0, 0))
theorem Row.lt {α : Type} {f : α → List Value} {T : TypeId} {w : World} {g : Nat} {L : List α} {rest : List Value} (h : Row f T w g L rest) : g < w.heap.size := lt_of_block h
theorem Row.fr {α : Type} {f : α → List Value} {T : TypeId} {w w' : World} {S : Nat → Prop} {g : Nat} {L : List α} {rest : List Value} (h : Row f T w g L rest) (hf : Fr w w' S) (hS : ¬ S g) : Row f T w' g L rest := by
  unfold Row
  rw [hf.block g h.lt hS]
  exact h
theorem Row.free {α : Type} {f : α → List Value} {T : TypeId} {w : World} {g : Nat} {L : List α} {rest : List Value} (h : Row f T w g L rest) (o : Nat) : w.frozen? ⟨g, o, none⟩ = false := by
  have h' : w.heap[g]? = some (.cells (fl f L ++ rest).toArray T (0, 0)) := h
  simp [World.frozen?, h']
theorem Row.at {α : Type} {f : α → List Value} {T : TypeId} {K : Nat} (hf : ∀ x, (f x).length = K) {w : World} {g : Nat} {L : List α} {rest : List Value} (h : Row f T w g L rest) {i : Nat} (hi : i < L.length) (z : α) {j : Nat} (hj : j < K) {u : Value} (hu : (f (L.getD i z))[j]? = some u) : w.cell? ⟨g, i * K + j, none⟩ = some u := by
  rw [cell_of_row w g _ _ _ (0, 0) h]
  have := fl_at hf hi z hj rest
  rw [hu] at this
  simpa using this

/-- Modulus as a test. -/
theorem mod_two {a n : Nat} (h : a < 2 * n) : a % n = if a < n then a else a - n := by
  split
  · exact Nat.mod_eq_of_lt (by assumption)
  · rw [Nat.mod_eq_sub_mod (by omega), Nat.mod_eq_of_lt (by omega)]
/-- A ring's list L lies in the row R from st on. -/
def Rot {α : Type} (z : α) (R : List α) (st : Nat) (L : List α) : Prop := st < R.length ∧ L.length ≤ R.length ∧ ∀ i, i < L.length → R.getD ((st + i) % R.length) z = L.getD i z
theorem getD_set_same {α : Type} {R : List α} {j : Nat} (h : j < R.length) (x z : α) : (R.set j x).getD j z = x := by simp [List.getD, h]
theorem getD_set_other {α : Type} {R : List α} {i j : Nat} (h : i ≠ j) (x z : α) : (R.set j x).getD i z = R.getD i z := by
  simp only [List.getD]
  rw [List.getElem?_set_ne (fun e => h e.symm)]
theorem Rot.add {α : Type} {z : α} {R : List α} {st : Nat} {L : List α} (h : Rot z R st L) (hl : L.length < R.length) (x : α) : Rot z (R.set ((st + L.length) % R.length) x) st (L ++ [x]) := by
  obtain ⟨h1, h2, h3⟩ := h
  have hj : (st + L.length) % R.length < R.length := Nat.mod_lt _ (by omega)
  refine ⟨by rw [List.length_set]; exact h1, by rw [List.length_set, List.length_append]; simp; omega, fun i hi => ?_⟩
  rw [List.length_set]
  rw [List.length_append] at hi
  simp only [List.length_cons, List.length_nil] at hi
  rcases Nat.lt_or_ge i L.length with h | h
  · rw [getD_set_other, h3 i h]
    · simp [List.getD, List.getElem?_append_left h]
    · rw [mod_two (by omega), mod_two (by omega)]
      split <;> split <;> omega
  · have e : i = L.length := by omega
    subst e
    rw [getD_set_same hj]
    simp [List.getD]
theorem Rot.take {α : Type} {z : α} {R : List α} {st : Nat} {x : α} {L : List α} (h : Rot z R st (x :: L)) (u : α) : R.getD st z = x ∧ Rot z (R.set st u) ((st + 1) % R.length) L := by
  obtain ⟨h1, h2, h3⟩ := h
  have hl : L.length + 1 ≤ R.length := by simpa using h2
  refine ⟨?_, ?_, ?_, fun i hi => ?_⟩
  · have := h3 0 (by simp)
    rw [Nat.add_zero, Nat.mod_eq_of_lt h1] at this
    simpa using this
  · rw [List.length_set]; exact Nat.mod_lt _ (by omega)
  · rw [List.length_set]; omega
  · rw [List.length_set, Nat.mod_add_mod, show st + 1 + i = st + (i + 1) by omega, getD_set_other, h3 (i + 1) (by simp; omega)]
    · simp [List.getD]
    · rw [mod_two (by omega)]
      split <;> omega
theorem Rot.move {α : Type} {z : α} {R : List α} {st : Nat} {L : List α} (h : Rot z R st L) (hl : L.length = R.length) : R.drop st ++ R.take st = L := by
  obtain ⟨h1, h2, h3⟩ := h
  apply List.ext_getElem?
  intro i
  rcases Nat.lt_or_ge i L.length with hi | hi
  · have h4 := h3 i hi
    have e2 : L[i]? = some (L.getD i z) := by simp [List.getD, hi]
    rw [e2, ← h4, mod_two (by omega)]
    split
    · rw [List.getElem?_append_left (by rw [List.length_drop]; omega), List.getElem?_drop]
      simp [List.getD, show st + i < R.length by omega]
    · rw [List.getElem?_append_right (by rw [List.length_drop]; omega), List.length_drop, List.getElem?_take, if_pos (by omega), show i - (R.length - st) = st + i - R.length by omega]
      simp [List.getD, show st + i - R.length < R.length by omega]
  · rw [List.getElem?_eq_none hi, List.getElem?_eq_none (by rw [List.length_append, List.length_drop, List.length_take]; omega)]
theorem Rot.front {α : Type} {z : α} {L : List α} (N : List α) (h : 0 < (L ++ N).length) : Rot z (L ++ N) 0 L := by
  refine ⟨h, by rw [List.length_append]; omega, fun i hi => ?_⟩
  rw [Nat.zero_add, Nat.mod_eq_of_lt (by rw [List.length_append]; omega)]
  simp [List.getD, List.getElem?_append_left hi]

/-- An item, a message. -/
structure It where
  m : Bool
  k : ByteArray
  t : Int
  v : Int
structure Ms where
  s : Int
  x : It
def it0 : It := ⟨false, ⟨#[]⟩, 0, 0⟩
def ms0 : Ms := ⟨0, it0⟩
def elI (x : It) : List Value := [.bool x.m, .string x.k, .int .i64 x.t, .int .i64 x.v]
def elM (y : Ms) : List Value := [.int .i64 y.s, .bool y.x.m, .string y.x.k, .int .i64 y.x.t, .int .i64 y.x.v]
def vI (x : It) : Value := .agg #[.bool x.m, .string x.k, .int .i64 x.t, .int .i64 x.v]
def vM (y : Ms) : Value := .agg #[.int .i64 y.s, .bool y.x.m, .string y.x.k, .int .i64 y.x.t, .int .i64 y.x.v]
theorem free_of {w : World} {N : Nat} {cs : Array Value} {T : TypeId} (h : w.heap[N]? = some (.cells cs T (0, 0))) (q : Nat) : w.frozen? ⟨N, q, none⟩ = false := by simp [World.frozen?, h]
theorem elI_len (x : It) : (elI x).length = 4 := rfl
theorem elM_len (x : Ms) : (elM x).length = 5 := rfl
theorem elI_one (x : It) : ∀ u ∈ elI x, u.oneCell' = true := by
  intro u hu
  simp [elI] at hu
  rcases hu with rfl | rfl | rfl | rfl <;> rfl
theorem elM_one (x : Ms) : ∀ u ∈ elM x, u.oneCell' = true := by
  intro u hu
  simp [elM] at hu
  rcases hu with rfl | rfl | rfl | rfl | rfl <;> rfl

theorem set_fr (w : World) (b o : Nat) (u : Value) : Fr w (w.setCell ⟨b, o, none⟩ u) (fun k => k = b) := Fr.setCell (S := fun k => k = b) (Fr.refl w _) (fun _ => rfl) u
theorem keep_block {w w' : World} {S : Nat → Prop} {N : Nat} {o : Obj} (h : w.heap[N]? = some o) (hf : Fr w w' S) (hS : ¬ S N) : w'.heap[N]? = some o := (hf.block N (lt_of_block h) hS).trans h
/-- A ring's four cells inside a block. -/
def RB (w : World) (b : Nat) (T : TypeId) (A C : List Value) (v : Value) (st cnt most : Nat) : Prop := w.heap[b]? = some (.cells (A ++ ([v, .int .i64 (st : Int), .int .i64 (cnt : Int), .int .i64 (most : Int)] ++ C)).toArray T (0, 0))
theorem RB.lt {w : World} {b : Nat} {T : TypeId} {A C : List Value} {v : Value} {st cnt most : Nat} (h : RB w b T A C v st cnt most) : b < w.heap.size := lt_of_block h
theorem RB.fr {w w' : World} {S : Nat → Prop} {b : Nat} {T : TypeId} {A C : List Value} {v : Value} {st cnt most : Nat} (h : RB w b T A C v st cnt most) (hf : Fr w w' S) (hS : ¬ S b) : RB w' b T A C v st cnt most := by
  unfold RB
  rw [hf.block b h.lt hS]
  exact h
theorem RB.free {w : World} {b : Nat} {T : TypeId} {A C : List Value} {v : Value} {st cnt most : Nat} (h : RB w b T A C v st cnt most) (o : Nat) : w.frozen? ⟨b, o, none⟩ = false := by
  have h' : w.heap[b]? = some (.cells (A ++ ([v, .int .i64 (st : Int), .int .i64 (cnt : Int), .int .i64 (most : Int)] ++ C)).toArray T (0, 0)) := h
  simp [World.frozen?, h']
theorem RB.cells {w : World} {b : Nat} {T : TypeId} {A C : List Value} {v : Value} {st cnt most o : Nat} (h : RB w b T A C v st cnt most) (ho : A.length = o) : w.cell? ⟨b, o, none⟩ = some v ∧ w.cell? ⟨b, o + 1, none⟩ = some (.int .i64 (st : Int)) ∧ w.cell? ⟨b, o + 2, none⟩ = some (.int .i64 (cnt : Int)) ∧ w.cell? ⟨b, o + 3, none⟩ = some (.int .i64 (most : Int)) := by
  subst ho
  refine ⟨?_, ?_, ?_, ?_⟩ <;> rw [cell_of_row w b _ _ _ (0, 0) h] <;> simp
theorem RB.set0 {w : World} {b : Nat} {T : TypeId} {A C : List Value} {v : Value} {st cnt most o : Nat} (h : RB w b T A C v st cnt most) (ho : A.length = o) (u : Value) : RB (w.setCell ⟨b, o, none⟩ u) b T A C u st cnt most := by
  subst ho
  unfold RB
  rw [heap_setCell_same w b _ _ _ u h]
  simp
theorem RB.set1 {w : World} {b : Nat} {T : TypeId} {A C : List Value} {v : Value} {st cnt most o : Nat} (h : RB w b T A C v st cnt most) (ho : A.length = o) (n : Nat) : RB (w.setCell ⟨b, o + 1, none⟩ (.int .i64 (n : Int))) b T A C v n cnt most := by
  subst ho
  unfold RB
  rw [heap_setCell_same w b _ _ _ _ h]
  simp
theorem RB.set2 {w : World} {b : Nat} {T : TypeId} {A C : List Value} {v : Value} {st cnt most o : Nat} (h : RB w b T A C v st cnt most) (ho : A.length = o) (n : Nat) : RB (w.setCell ⟨b, o + 2, none⟩ (.int .i64 (n : Int))) b T A C v st n most := by
  subst ho
  unfold RB
  rw [heap_setCell_same w b _ _ _ _ h]
  simp
end Go.Proofs.Ytedlpefglgleeab
