/- The document's table in memory: blocks of places, four cells a place (taken, gone, key, value). -/
import Derived.Test.YtobigmcklecbnaaTTab2
namespace Go.Proofs.Ytobigmcklecbnaa
open Go.RowKit

def bt (x : Pl) : Value := .bool (x.st == 1)
def bg (x : Pl) : Value := .bool (decide (1 < x.st))
/-- Places as values. -/
def pd : List Pl → List Value
  | [] => []
  | x :: L => bt x :: bg x :: .string x.key :: x.val :: pd L
theorem pd_append (a b : List Pl) : pd (a ++ b) = pd a ++ pd b := by
  induction a with
  | nil => rfl
  | cons x a ih => simp [pd, ih]
theorem pd_length (L : List Pl) : (pd L).length = L.length * 4 := by
  induction L with
  | nil => rfl
  | cons x L ih => simp only [pd, List.length_cons, ih]; omega
theorem pd_get : ∀ (L : List Pl) (i : Nat), i < L.length → (pd L)[i * 4]? = some (bt (at' L i)) ∧ (pd L)[i * 4 + 1]? = some (bg (at' L i)) ∧ (pd L)[i * 4 + 2]? = some (.string (at' L i).key) ∧ (pd L)[i * 4 + 3]? = some (at' L i).val
  | [], i, h => by simp at h
  | x :: L, 0, _ => ⟨rfl, rfl, rfl, rfl⟩
  | x :: L, i + 1, h => by
    have := pd_get L i (by simpa using h)
    rw [show (i + 1) * 4 = i * 4 + 4 by omega]
    simpa [pd, at'] using this
theorem pd_set : ∀ (L : List Pl) (i : Nat) (x : Pl), i < L.length → pd (L.set i x) = ((((pd L).set (i * 4) (bt x)).set (i * 4 + 1) (bg x)).set (i * 4 + 2) (.string x.key)).set (i * 4 + 3) x.val
  | [], i, x, h => by simp at h
  | y :: L, 0, x, _ => rfl
  | y :: L, i + 1, x, h => by
    have := pd_set L i x (by simpa using h)
    rw [show (i + 1) * 4 = i * 4 + 4 by omega]
    simp [pd, this]

/-- A block that holds places, and more behind them. -/
def RowH (w : World) (g : Nat) (L : List Pl) (rest : List Value) : Prop := w.heap[g]? = some (.cells (pd L ++ rest).toArray 115 (0, 0))
theorem RowH.lt {w : World} {g : Nat} {R : List Pl} {rest : List Value} (h : RowH w g R rest) : g < w.heap.size := lt_of_block h
theorem RowH.fr {w w' : World} {S : Nat → Prop} {g : Nat} {R : List Pl} {rest : List Value} (h : RowH w g R rest) (hf : Fr w w' S) (hS : ¬ S g) : RowH w' g R rest := by
  unfold RowH
  rw [hf.block g h.lt hS]
  exact h
theorem RowH.free {w : World} {g : Nat} {R : List Pl} {rest : List Value} (h : RowH w g R rest) (o : Nat) : w.frozen? ⟨g, o, none⟩ = false := by
  have h' : w.heap[g]? = some (.cells (pd R ++ rest).toArray 115 (0, 0)) := h
  simp [World.frozen?, h']
theorem RowH.cells {w : World} {g : Nat} {R : List Pl} {rest : List Value} (h : RowH w g R rest) (i : Nat) (hi : i < R.length) : w.cell? ⟨g, i * 4, none⟩ = some (bt (at' R i)) ∧ w.cell? ⟨g, i * 4 + 1, none⟩ = some (bg (at' R i)) ∧ w.cell? ⟨g, i * 4 + 2, none⟩ = some (.string (at' R i).key) ∧ w.cell? ⟨g, i * 4 + 3, none⟩ = some (at' R i).val := by
  obtain ⟨h1, h2, h3, h4⟩ := pd_get R i hi
  have hl := pd_length R
  refine ⟨?_, ?_, ?_, ?_⟩
  · rw [cell_of_row w g _ _ _ (0, 0) h]
    simp [List.getElem?_append_left (show i * 4 < (pd R).length by omega), h1]
  · rw [cell_of_row w g _ _ _ (0, 0) h]
    simp [List.getElem?_append_left (show i * 4 + 1 < (pd R).length by omega), h2]
  · rw [cell_of_row w g _ _ _ (0, 0) h]
    simp [List.getElem?_append_left (show i * 4 + 2 < (pd R).length by omega), h3]
  · rw [cell_of_row w g _ _ _ (0, 0) h]
    simp [List.getElem?_append_left (show i * 4 + 3 < (pd R).length by omega), h4]
/-- The world behind a place's store. -/
def set4w (w : World) (g o : Nat) (x : Pl) : World := (((w.setCell ⟨g, o, none⟩ (bt x)).setCell ⟨g, o + 1, none⟩ (bg x)).setCell ⟨g, o + 2, none⟩ (.string x.key)).setCell ⟨g, o + 3, none⟩ x.val
theorem RowH.set {w : World} {g : Nat} {R : List Pl} {rest : List Value} (h : RowH w g R rest) (i : Nat) (hi : i < R.length) (x : Pl) : RowH (set4w w g (i * 4) x) g (R.set i x) rest := by
  have h1 := heap_setCell_same w g (i * 4) _ _ (bt x) h
  have h2 := heap_setCell_same _ g (i * 4 + 1) _ _ (bg x) h1
  have h3 := heap_setCell_same _ g (i * 4 + 2) _ _ (.string x.key) h2
  have h4 := heap_setCell_same _ g (i * 4 + 3) _ _ x.val h3
  unfold RowH set4w
  rw [h4, pd_set R i x hi]
  have hl := pd_length R
  refine congrArg (fun a => some (Obj.cells a _ (0, 0))) (Array.ext' ?_)
  simp only [Array.toList_setIfInBounds]
  rw [List.set_append_left _ _ (by omega), List.set_append_left _ _ (by simp; omega), List.set_append_left _ _ (by simp; omega), List.set_append_left _ _ (by simp; omega)]
theorem RowH.other {w : World} {g o : Nat} {g' : Nat} {R : List Pl} {rest : List Value} (h : RowH w g R rest) (hne : g' ≠ g) (x : Pl) : RowH (set4w w g' o x) g R rest := by
  unfold RowH set4w
  rw [Below.heap_setCell _ _ _ _ (fun e => hne e.symm), Below.heap_setCell _ _ _ _ (fun e => hne e.symm), Below.heap_setCell _ _ _ _ (fun e => hne e.symm), Below.heap_setCell _ _ _ _ (fun e => hne e.symm)]
  exact h
theorem list_set_same {l : List Value} {i : Nat} {v : Value} (h : l[i]? = some v) : l.set i v = l := by
  apply List.ext_getElem?
  intro j
  rw [List.getElem?_set]
  split
  · rename_i e; subst e
    rw [h]
    split
    · rfl
    · rename_i hn
      rw [List.getElem?_eq_none (by omega)] at h
      cases h
  · rfl
theorem RowH.setv {w : World} {g : Nat} {R : List Pl} {rest : List Value} (h : RowH w g R rest) (i : Nat) (hi : i < R.length) (v : Value) : RowH (w.setCell ⟨g, i * 4 + 3, none⟩ v) g (putIn R i v) rest := by
  have h1 := heap_setCell_same w g (i * 4 + 3) _ _ v h
  obtain ⟨c0, c1, c2, _⟩ := pd_get R i hi
  unfold RowH putIn
  rw [h1, pd_set R i _ hi]
  have hl := pd_length R
  refine congrArg (fun a => some (Obj.cells a _ (0, 0))) (Array.ext' ?_)
  simp only [Array.toList_setIfInBounds]
  rw [List.set_append_left _ _ (by omega)]
  have e0 : (pd R).set (i * 4) (bt ⟨(at' R i).st, (at' R i).key, v⟩) = pd R := list_set_same c0
  have e1 : (pd R).set (i * 4 + 1) (bg ⟨(at' R i).st, (at' R i).key, v⟩) = pd R := list_set_same c1
  have e2 : (pd R).set (i * 4 + 2) (.string (at' R i).key) = pd R := list_set_same c2
  rw [e0, e1, e2]
theorem set4w_fr (w : World) (g o : Nat) (x : Pl) {a : World} {S : Nat → Prop} (h : Fr a w S) (hg : g < a.heap.size → S g) : Fr a (set4w w g o x) S :=
  (((h.setCell (p := ⟨g, o, none⟩) hg _).setCell (p := ⟨g, o + 1, none⟩) hg _).setCell (p := ⟨g, o + 2, none⟩) hg _).setCell (p := ⟨g, o + 3, none⟩) hg _
/-- What make lays. -/
theorem pd_rep (z : Value) (n : Nat) : (madeCells #[.bool false, .bool false, .string none8, z] (n * 4)) = (pd (List.replicate n (pz z))).toArray := by
  apply Array.ext
  · rw [size_madeCells]
    simp [pd_length]
  · intro i h1 h2
    rw [size_madeCells] at h1
    have hl : (List.replicate n (pz z)).length = n := by simp
    have hq : i / 4 < n := by omega
    obtain ⟨c0, c1, c2, c3⟩ := pd_get (List.replicate n (pz z)) (i / 4) (by rw [hl]; exact hq)
    rw [at_rep z hq] at c0 c1 c2 c3
    have hm : i % 4 = 0 ∨ i % 4 = 1 ∨ i % 4 = 2 ∨ i % 4 = 3 := by omega
    have hg : (pd (List.replicate n (pz z)))[i]? = some (#[Value.bool false, .bool false, .string none8, z][i % 4]!) := by
      rcases hm with hm | hm | hm | hm
      · rw [hm, show i = i / 4 * 4 by omega, c0]; rfl
      · rw [hm, show i = i / 4 * 4 + 1 by omega, c1]; rfl
      · rw [hm, show i = i / 4 * 4 + 2 by omega, c2]; rfl
      · rw [hm, show i = i / 4 * 4 + 3 by omega, c3]; rfl
    have h3 : (madeCells #[.bool false, .bool false, .string none8, z] (n * 4))[i]? = some (#[Value.bool false, .bool false, .string none8, z][i % 4]!) := by
      simp [madeCells, h1]
    rw [Array.getElem?_eq_getElem (by rw [size_madeCells]; exact h1)] at h3
    rw [List.getElem?_eq_getElem (by simpa using h2)] at hg
    have := (Option.some.inj h3).trans (Option.some.inj hg).symm
    rw [this]
    simp

/-- A row of the document's at a block, or none. -/
def Rh (w : World) (L : List Pl) (v : Value) : Option Nat → Prop
  | none => L = [] ∧ v = .slice none 0 0
  | some g => ∃ cap rest, v = .slice (some ⟨g, 0, none⟩) L.length cap ∧ RowH w g L rest ∧ L ≠ []
theorem Rh.shape {w : World} {L : List Pl} {v : Value} {b : Option Nat} (h : Rh w L v b) : ∃ ao cap, v = .slice ao L.length cap := by
  cases b with
  | none => obtain ⟨rfl, rfl⟩ := h; exact ⟨none, 0, rfl⟩
  | some g => obtain ⟨cap, rest, rfl, _, _⟩ := h; exact ⟨_, cap, rfl⟩
theorem Rh.fr {w w' : World} {S : Nat → Prop} {L : List Pl} {v : Value} {b : Option Nat} (h : Rh w L v b) (hf : Fr w w' S) (hS : ∀ g, b = some g → ¬ S g) : Rh w' L v b := by
  cases b with
  | none => exact h
  | some g => obtain ⟨cap, rest, rfl, hR, hne⟩ := h; exact ⟨cap, rest, rfl, hR.fr hf (hS g rfl), hne⟩
theorem Rh.lt {w : World} {L : List Pl} {v : Value} {g : Nat} (h : Rh w L v (some g)) : g < w.heap.size := by
  obtain ⟨cap, rest, rfl, hR, hne⟩ := h; exact hR.lt
/-- The document's table at block B, its rows at blocks gr and (perhaps) ge. -/
structure RfAt (w : World) (B gr : Nat) (ge : Option Nat) (T : Tb) : Prop where
  ex : ∃ rv ev, w.heap[B]? = some (.cells #[rv, ev, .int .i64 (T.moved : Int), .int .i64 (T.keys : Int)] 71 (0, 0)) ∧ Rh w T.row rv (some gr) ∧ Rh w T.elder ev ge
  ne : ge ≠ some gr
  inv : Inv0 T
  rok : Vok T.row
  eok : Vok T.elder
  len : T.row.length ≤ 1099511627776
theorem RfAt.lt {w : World} {B gr : Nat} {ge : Option Nat} {T : Tb} (h : RfAt w B gr ge T) : B < w.heap.size := by
  obtain ⟨rv, ev, hc, _⟩ := h.ex; exact lt_of_block hc
theorem RfAt.neB {w : World} {B gr : Nat} {ge : Option Nat} {T : Tb} (h : RfAt w B gr ge T) : gr ≠ B ∧ ge ≠ some B := by
  obtain ⟨rv, ev, hc, hr, he⟩ := h.ex
  have key : ∀ {g : Nat} {L : List Pl} {v : Value}, Rh w L v (some g) → g ≠ B := by
    rintro g L v ⟨cap, rest, _, hR, _⟩ rfl
    unfold RowH at hR
    rw [hc] at hR
    simp at hR
  exact ⟨key hr, fun e => by subst e; exact key he rfl⟩
theorem RfAt.fr {w w' : World} {S : Nat → Prop} {B gr : Nat} {ge : Option Nat} {T : Tb} (h : RfAt w B gr ge T) (hf : Fr w w' S) (hS : ∀ b, bl B gr ge b → ¬ S b) : RfAt w' B gr ge T := by
  obtain ⟨rv, ev, hc, hr, he⟩ := h.ex
  exact ⟨⟨rv, ev, by rw [hf.block B h.lt (hS B (Or.inl rfl))]; exact hc, hr.fr hf (fun g e => hS g (Or.inr (Or.inl (by cases e; rfl)))), he.fr hf (fun g e => hS g (Or.inr (Or.inr e)))⟩, h.ne, h.inv, h.rok, h.eok, h.len⟩
theorem RfAt.step {w w' : World} {B gr : Nat} {ge : Option Nat} {T : Tb} (h : RfAt w B gr ge T) (hf : Fr w w' (fun _ => False)) : RfAt w' B gr ge T := h.fr hf (fun _ _ h => h)
theorem RfAt.elen {w : World} {B gr : Nat} {ge : Option Nat} {T : Tb} (h : RfAt w B gr ge T) : T.elder.length ≤ 1099511627776 := by
  have := h.len
  rcases Classical.em (T.elder = []) with e | e
  · rw [e]; exact Nat.zero_le _
  · have := h.inv.half e; omega
end Go.Proofs.Ytobigmcklecbnaa
