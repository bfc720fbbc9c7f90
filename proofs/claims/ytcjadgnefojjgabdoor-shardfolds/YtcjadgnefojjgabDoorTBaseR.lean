/- A table's rows in memory, where a value is a shard's row: blocks of places, six cells a place. -/
import Derived.Test.YtcjadgnefojjgabDoorTHash
namespace Go.Proofs.YtcjadgnefojjgabDoor.R
open Go.RowKit

/-- A shard's row: a cell, and where its chain lies. -/
structure Rw where
  v : Int
  k : ByteArray
  s : Int
  p : Option Addr
def rz : Rw := ⟨0, ⟨#[]⟩, 0, none⟩
def vl : Value → Rw
  | .agg a => match a.toList with
    | [.int .i64 v, .string k, .int .i64 s, .pointer p] => ⟨v, k, s, p⟩
    | _ => rz
  | _ => rz
theorem vl_x (x : Rw) : vl (.agg #[.int .i64 x.v, .string x.k, .int .i64 x.s, .pointer x.p]) = x := rfl
theorem vl_z : vl (.agg #[.int .i64 0, .string ⟨#[]⟩, .int .i64 0, .pointer none]) = rz := rfl

/-- Places as values. -/
def pc : List Pl → List Value
  | [] => []
  | x :: L => .int .u8 (x.st : Int) :: .string x.key :: .int .i64 (vl x.val).v :: .string (vl x.val).k :: .int .i64 (vl x.val).s :: .pointer (vl x.val).p :: pc L
theorem pc_length (L : List Pl) : (pc L).length = L.length * 6 := by
  induction L with
  | nil => rfl
  | cons x L ih => simp only [pc, List.length_cons, ih]; omega
theorem pc_get : ∀ (L : List Pl) (i : Nat), i < L.length → (pc L)[i * 6]? = some (.int .u8 ((at' L i).st : Int)) ∧ (pc L)[i * 6 + 1]? = some (.string (at' L i).key) ∧ (pc L)[i * 6 + 2]? = some (.int .i64 (vl (at' L i).val).v) ∧ (pc L)[i * 6 + 3]? = some (.string (vl (at' L i).val).k) ∧ (pc L)[i * 6 + 4]? = some (.int .i64 (vl (at' L i).val).s) ∧ (pc L)[i * 6 + 5]? = some (.pointer (vl (at' L i).val).p)
  | [], i, h => by simp at h
  | x :: L, 0, _ => ⟨rfl, rfl, rfl, rfl, rfl, rfl⟩
  | x :: L, i + 1, h => by
    have := pc_get L i (by simpa using h)
    rw [show (i + 1) * 6 = i * 6 + 6 by omega]
    simpa [pc, at'] using this
theorem pc_set : ∀ (L : List Pl) (i : Nat) (x : Pl), i < L.length → pc (L.set i x) = ((((((pc L).set (i * 6) (.int .u8 (x.st : Int))).set (i * 6 + 1) (.string x.key)).set (i * 6 + 2) (.int .i64 (vl x.val).v)).set (i * 6 + 3) (.string (vl x.val).k)).set (i * 6 + 4) (.int .i64 (vl x.val).s)).set (i * 6 + 5) (.pointer (vl x.val).p)
  | [], i, x, h => by simp at h
  | y :: L, 0, x, _ => rfl
  | y :: L, i + 1, x, h => by
    have := pc_set L i x (by simpa using h)
    rw [show (i + 1) * 6 = i * 6 + 6 by omega]
    simp [pc, this]

/-- A block that holds places, and more behind them. -/
def RowG (e : TypeId) (w : World) (g : Nat) (L : List Pl) (rest : List Value) : Prop := w.heap[g]? = some (.cells (pc L ++ rest).toArray e (0, 0))
theorem RowG.lt {e : TypeId} {w : World} {g : Nat} {R : List Pl} {rest : List Value} (h : RowG e w g R rest) : g < w.heap.size := lt_of_block h
theorem RowG.fr {e : TypeId} {w w' : World} {S : Nat → Prop} {g : Nat} {R : List Pl} {rest : List Value} (h : RowG e w g R rest) (hf : Fr w w' S) (hS : ¬ S g) : RowG e w' g R rest := by
  unfold RowG
  rw [hf.block g h.lt hS]
  exact h
theorem RowG.free {e : TypeId} {w : World} {g : Nat} {R : List Pl} {rest : List Value} (h : RowG e w g R rest) (o : Nat) : w.frozen? ⟨g, o, none⟩ = false := by
  have h' : w.heap[g]? = some (.cells (pc R ++ rest).toArray e (0, 0)) := h
  simp [World.frozen?, h']
theorem RowG.cell {e : TypeId} {w : World} {g : Nat} {R : List Pl} {rest : List Value} (h : RowG e w g R rest) {o : Nat} {u : Value} (ho : (pc R)[o]? = some u) : w.cell? ⟨g, o, none⟩ = some u := by
  rw [cell_of_row w g _ _ _ (0, 0) h]
  have hl : o < (pc R).length := by
    rcases Nat.lt_or_ge o (pc R).length with h1 | h1
    · exact h1
    · rw [List.getElem?_eq_none h1] at ho; cases ho
  simp [List.getElem?_append_left hl, ho]
theorem RowG.cells {e : TypeId} {w : World} {g : Nat} {R : List Pl} {rest : List Value} (h : RowG e w g R rest) (i : Nat) (hi : i < R.length) : w.cell? ⟨g, i * 6, none⟩ = some (.int .u8 ((at' R i).st : Int)) ∧ w.cell? ⟨g, i * 6 + 1, none⟩ = some (.string (at' R i).key) ∧ w.cell? ⟨g, i * 6 + 2, none⟩ = some (.int .i64 (vl (at' R i).val).v) ∧ w.cell? ⟨g, i * 6 + 3, none⟩ = some (.string (vl (at' R i).val).k) ∧ w.cell? ⟨g, i * 6 + 4, none⟩ = some (.int .i64 (vl (at' R i).val).s) ∧ w.cell? ⟨g, i * 6 + 5, none⟩ = some (.pointer (vl (at' R i).val).p) := by
  obtain ⟨h1, h2, h3, h4, h5, h6⟩ := pc_get R i hi
  exact ⟨h.cell h1, h.cell h2, h.cell h3, h.cell h4, h.cell h5, h.cell h6⟩
theorem RowG.cellx {e : TypeId} {w : World} {g : Nat} {R : List Pl} {rest : List Value} (h : RowG e w g R rest) (i : Nat) (hi : i < R.length) {x : Rw} (hx : (at' R i).val = .agg #[.int .i64 x.v, .string x.k, .int .i64 x.s, .pointer x.p]) : w.cell? ⟨g, i * 6, none⟩ = some (.int .u8 ((at' R i).st : Int)) ∧ w.cell? ⟨g, i * 6 + 1, none⟩ = some (.string (at' R i).key) ∧ w.cell? ⟨g, i * 6 + 2, none⟩ = some (.int .i64 x.v) ∧ w.cell? ⟨g, i * 6 + 3, none⟩ = some (.string x.k) ∧ w.cell? ⟨g, i * 6 + 4, none⟩ = some (.int .i64 x.s) ∧ w.cell? ⟨g, i * 6 + 5, none⟩ = some (.pointer x.p) := by
  have := h.cells i hi
  rw [hx] at this
  exact this
/-- The world behind a place's store, and a value's alone. -/
def set4 (w : World) (g o : Nat) (x : Rw) : World := (((w.setCell ⟨g, o + 2, none⟩ (.int .i64 x.v)).setCell ⟨g, o + 3, none⟩ (.string x.k)).setCell ⟨g, o + 4, none⟩ (.int .i64 x.s)).setCell ⟨g, o + 5, none⟩ (.pointer x.p)
def set6 (w : World) (g o : Nat) (st : Nat) (key : ByteArray) (x : Rw) : World := set4 ((w.setCell ⟨g, o, none⟩ (.int .u8 (st : Int))).setCell ⟨g, o + 1, none⟩ (.string key)) g o x
theorem RowG.set {e : TypeId} {w : World} {g : Nat} {R : List Pl} {rest : List Value} (h : RowG e w g R rest) (i : Nat) (hi : i < R.length) (st : Nat) (key : ByteArray) (x : Rw) : RowG e (set6 w g (i * 6) st key x) g (R.set i ⟨st, key, .agg #[.int .i64 x.v, .string x.k, .int .i64 x.s, .pointer x.p]⟩) rest := by
  have h1 := heap_setCell_same w g (i * 6) _ _ (.int .u8 (st : Int)) h
  have h2 := heap_setCell_same _ g (i * 6 + 1) _ _ (.string key) h1
  have h3 := heap_setCell_same _ g (i * 6 + 2) _ _ (.int .i64 x.v) h2
  have h4 := heap_setCell_same _ g (i * 6 + 3) _ _ (.string x.k) h3
  have h5 := heap_setCell_same _ g (i * 6 + 4) _ _ (.int .i64 x.s) h4
  have h6 := heap_setCell_same _ g (i * 6 + 5) _ _ (.pointer x.p) h5
  unfold RowG set6 set4
  rw [h6, pc_set R i _ hi]
  have hl := pc_length R
  refine congrArg (fun a => some (Obj.cells a e (0, 0))) (Array.ext' ?_)
  simp only [Array.toList_setIfInBounds, vl_x]
  rw [List.set_append_left _ _ (by omega), List.set_append_left _ _ (by simp; omega), List.set_append_left _ _ (by simp; omega), List.set_append_left _ _ (by simp; omega), List.set_append_left _ _ (by simp; omega), List.set_append_left _ _ (by simp; omega)]
theorem set_same {L : List Value} {j : Nat} {u : Value} (h : L[j]? = some u) : L.set j u = L := by
  apply List.ext_getElem?
  intro k
  rw [List.getElem?_set]
  split
  · rename_i e; subst e
    rw [h]
    split
    · rfl
    · rename_i h2
      rw [List.getElem?_eq_none (by omega)] at h
      cases h
  · rfl
theorem RowG.setv {e : TypeId} {w : World} {g : Nat} {R : List Pl} {rest : List Value} (h : RowG e w g R rest) (i : Nat) (hi : i < R.length) (x : Rw) : RowG e (set4 w g (i * 6) x) g (putIn R i (.agg #[.int .i64 x.v, .string x.k, .int .i64 x.s, .pointer x.p])) rest := by
  have h3 := heap_setCell_same w g (i * 6 + 2) _ _ (.int .i64 x.v) h
  have h4 := heap_setCell_same _ g (i * 6 + 3) _ _ (.string x.k) h3
  have h5 := heap_setCell_same _ g (i * 6 + 4) _ _ (.int .i64 x.s) h4
  have h6 := heap_setCell_same _ g (i * 6 + 5) _ _ (.pointer x.p) h5
  obtain ⟨c0, c1, _⟩ := pc_get R i hi
  unfold RowG putIn set4
  rw [h6, pc_set R i _ hi, set_same c0, set_same c1]
  have hl := pc_length R
  refine congrArg (fun a => some (Obj.cells a e (0, 0))) (Array.ext' ?_)
  simp only [Array.toList_setIfInBounds, vl_x]
  rw [List.set_append_left _ _ (by omega), List.set_append_left _ _ (by simp; omega), List.set_append_left _ _ (by simp; omega), List.set_append_left _ _ (by simp; omega)]
theorem set4_fr (w : World) (g o : Nat) (x : Rw) {a : World} {S : Nat → Prop} (h : Fr a w S) (hg : g < a.heap.size → S g) : Fr a (set4 w g o x) S :=
  (((h.setCell (p := ⟨g, o + 2, none⟩) hg _).setCell (p := ⟨g, o + 3, none⟩) hg _).setCell (p := ⟨g, o + 4, none⟩) hg _).setCell (p := ⟨g, o + 5, none⟩) hg _
theorem set6_fr (w : World) (g o : Nat) (st : Nat) (key : ByteArray) (x : Rw) {a : World} {S : Nat → Prop} (h : Fr a w S) (hg : g < a.heap.size → S g) : Fr a (set6 w g o st key x) S :=
  set4_fr _ g o x ((h.setCell (p := ⟨g, o, none⟩) hg _).setCell (p := ⟨g, o + 1, none⟩) hg _) hg
/-- What make lays. -/
theorem pc_rep (n : Nat) : (madeCells #[.int .u8 0, .string none8, .int .i64 0, .string ⟨#[]⟩, .int .i64 0, .pointer none] (n * 6)) = (pc (List.replicate n (pz (.agg #[.int .i64 0, .string ⟨#[]⟩, .int .i64 0, .pointer none])))).toArray := by
  apply Array.ext
  · rw [size_madeCells]
    simp [pc_length]
  · intro i h1 h2
    rw [size_madeCells] at h1
    have hl : (List.replicate n (pz (.agg #[.int .i64 0, .string ⟨#[]⟩, .int .i64 0, .pointer none]))).length = n := by simp
    have hq : i / 6 < n := by omega
    obtain ⟨c0, c1, c2, c3, c4, c5⟩ := pc_get (List.replicate n (pz (.agg #[.int .i64 0, .string ⟨#[]⟩, .int .i64 0, .pointer none]))) (i / 6) (by rw [hl]; exact hq)
    rw [at_rep _ hq] at c0 c1 c2 c3 c4 c5
    have hm : i % 6 = 0 ∨ i % 6 = 1 ∨ i % 6 = 2 ∨ i % 6 = 3 ∨ i % 6 = 4 ∨ i % 6 = 5 := by omega
    have hg : (pc (List.replicate n (pz (.agg #[.int .i64 0, .string ⟨#[]⟩, .int .i64 0, .pointer none]))))[i]? = some (#[Value.int .u8 0, .string none8, .int .i64 0, .string ⟨#[]⟩, .int .i64 0, .pointer none][i % 6]!) := by
      rcases hm with hm | hm | hm | hm | hm | hm
      · rw [hm, show i = i / 6 * 6 by omega, c0]; rfl
      · rw [hm, show i = i / 6 * 6 + 1 by omega, c1]; rfl
      · rw [hm, show i = i / 6 * 6 + 2 by omega, c2]; rfl
      · rw [hm, show i = i / 6 * 6 + 3 by omega, c3]; rfl
      · rw [hm, show i = i / 6 * 6 + 4 by omega, c4]; rfl
      · rw [hm, show i = i / 6 * 6 + 5 by omega, c5]; rfl
    have h3 : (madeCells #[.int .u8 0, .string none8, .int .i64 0, .string ⟨#[]⟩, .int .i64 0, .pointer none] (n * 6))[i]? = some (#[Value.int .u8 0, .string none8, .int .i64 0, .string ⟨#[]⟩, .int .i64 0, .pointer none][i % 6]!) := by
      simp [madeCells, h1]
    rw [Array.getElem?_eq_getElem (by rw [size_madeCells]; exact h1)] at h3
    rw [List.getElem?_eq_getElem (by simpa using h2)] at hg
    have := (Option.some.inj h3).trans (Option.some.inj hg).symm
    rw [this]
    simp
end Go.Proofs.YtcjadgnefojjgabDoor.R
