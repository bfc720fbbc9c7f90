/- Texts of one proof, joined. -/
import Derived.Test.YtgbkihkefdoddaaGreatDoorJoin1
import Derived.Test.YtgbkihkefdoddaaGreatDoorJoin2
import Derived.Test.YtgbkihkefdoddaaGreatDoorRows
import Derived.WalkKit
import Derived.Below
import Derived.Laws.Bits64
import Derived.Laws.MakeOwn
import Derived.Deep.OwnRows
import Derived.Deep.RegionWith
import Derived.Deep.RegionHeld3
import Derived.Deep.LoopGhost
import Derived.BigQuiet
section
/- A table's rows in memory: blocks of places, three cells a place. -/
namespace Go.Proofs.YtgbkihkefdoddaaGreatDoor
open Go.RowKit

theorem hid {p : Prop} (h : p) : Hid p := h
/-- Behind a call that turns nothing old, every old cell reads as before. -/
theorem fr_rules {a w' : World} (h : Fr a w' (fun _ => False)) : (∀ b o, b < a.heap.size → w'.cell? ⟨b, o, none⟩ = a.cell? ⟨b, o, none⟩) ∧ (∀ b o, b < a.heap.size → w'.frozen? ⟨b, o, none⟩ = a.frozen? ⟨b, o, none⟩) := by
  have hb : Below a.heap.size a w' := h.below (Nat.le_refl _) (fun _ h => h.elim)
  exact ⟨fun b o h => hb.cell (p := ⟨b, o, none⟩) h, fun b o h => hb.frozen (p := ⟨b, o, none⟩) h⟩
theorem heap_last (w : World) (o : Obj) (k : Nat) (h : w.heap.size = k) : (w.alloc o).heap[k]? = some o := by subst h; exact heap_alloc_new w o

/-- Places as values. -/
def pc : List Pl → List Value
  | [] => []
  | x :: L => .int .u8 (x.st : Int) :: .string x.key :: x.val :: pc L
theorem pc_append (a b : List Pl) : pc (a ++ b) = pc a ++ pc b := by
  induction a with
  | nil => rfl
  | cons x a ih => simp [pc, ih]
theorem pc_length (L : List Pl) : (pc L).length = L.length * 3 := by
  induction L with
  | nil => rfl
  | cons x L ih => simp only [pc, List.length_cons, ih]; omega
theorem pc_get : ∀ (L : List Pl) (i : Nat), i < L.length → (pc L)[i * 3]? = some (.int .u8 ((at' L i).st : Int)) ∧ (pc L)[i * 3 + 1]? = some (.string (at' L i).key) ∧ (pc L)[i * 3 + 2]? = some (at' L i).val
  | [], i, h => by simp at h
  | x :: L, 0, _ => ⟨rfl, rfl, rfl⟩
  | x :: L, i + 1, h => by
    have := pc_get L i (by simpa using h)
    rw [show (i + 1) * 3 = i * 3 + 3 by omega]
    simpa [pc, at'] using this
theorem pc_set : ∀ (L : List Pl) (i : Nat) (x : Pl), i < L.length → pc (L.set i x) = (((pc L).set (i * 3) (.int .u8 (x.st : Int))).set (i * 3 + 1) (.string x.key)).set (i * 3 + 2) x.val
  | [], i, x, h => by simp at h
  | y :: L, 0, x, _ => rfl
  | y :: L, i + 1, x, h => by
    have := pc_set L i x (by simpa using h)
    rw [show (i + 1) * 3 = i * 3 + 3 by omega]
    simp [pc, this]

/-- A block that holds places, and more behind them. -/
def RowG (e : TypeId) (w : World) (g : Nat) (L : List Pl) (rest : List Value) : Prop := w.heap[g]? = some (.cells (pc L ++ rest).toArray e (0, 0))
theorem RowG.lt {e : TypeId} {w : World} {g : Nat} {R : List Pl} {rest : List Value} (h : RowG e w g R rest) : g < w.heap.size := lt_of_block h
theorem RowG.fr {e : TypeId} {w w' : World} {S : Nat → Prop} {g : Nat} {R : List Pl} {rest : List Value} (h : RowG e w g R rest) (hf : Fr w w' S) (hS : ¬ S g) : RowG e w' g R rest := by
  unfold RowG
  rw [hf.block g h.lt hS]
  exact h
theorem RowG.free {e : TypeId} {w : World} {g : Nat} {R : List Pl} {rest : List Value} (h : RowG e w g R rest) (o : Nat) : w.frozen? ⟨g, o, none⟩ = false := by
  have h' : w.heap[g]? = some (.cells (pc R ++ rest).toArray e (0, 0)) := h
  simp [World.frozen?, h']
theorem RowG.cells {e : TypeId} {w : World} {g : Nat} {R : List Pl} {rest : List Value} (h : RowG e w g R rest) (i : Nat) (hi : i < R.length) : w.cell? ⟨g, i * 3, none⟩ = some (.int .u8 ((at' R i).st : Int)) ∧ w.cell? ⟨g, i * 3 + 1, none⟩ = some (.string (at' R i).key) ∧ w.cell? ⟨g, i * 3 + 2, none⟩ = some (at' R i).val := by
  obtain ⟨h1, h2, h3⟩ := pc_get R i hi
  have hl := pc_length R
  refine ⟨?_, ?_, ?_⟩
  · rw [cell_of_row w g _ _ _ (0, 0) h]
    simp [List.getElem?_append_left (show i * 3 < (pc R).length by omega), h1]
  · rw [cell_of_row w g _ _ _ (0, 0) h]
    simp [List.getElem?_append_left (show i * 3 + 1 < (pc R).length by omega), h2]
  · rw [cell_of_row w g _ _ _ (0, 0) h]
    simp [List.getElem?_append_left (show i * 3 + 2 < (pc R).length by omega), h3]
/-- The world behind a place's store. -/
def set3 (w : World) (g o : Nat) (x : Pl) : World := ((w.setCell ⟨g, o, none⟩ (.int .u8 (x.st : Int))).setCell ⟨g, o + 1, none⟩ (.string x.key)).setCell ⟨g, o + 2, none⟩ x.val
theorem RowG.set {e : TypeId} {w : World} {g : Nat} {R : List Pl} {rest : List Value} (h : RowG e w g R rest) (i : Nat) (hi : i < R.length) (x : Pl) : RowG e (set3 w g (i * 3) x) g (R.set i x) rest := by
  have h1 := heap_setCell_same w g (i * 3) _ _ (.int .u8 (x.st : Int)) h
  have h2 := heap_setCell_same _ g (i * 3 + 1) _ _ (.string x.key) h1
  have h3 := heap_setCell_same _ g (i * 3 + 2) _ _ x.val h2
  unfold RowG set3
  rw [h3, pc_set R i x hi]
  have hl := pc_length R
  congr 2
  apply Array.ext'
  simp only [Array.toList_setIfInBounds]
  rw [List.set_append_left _ _ (by omega), List.set_append_left _ _ (by simp; omega), List.set_append_left _ _ (by simp; omega)]
theorem RowG.other {e : TypeId} {w : World} {g o : Nat} {g' : Nat} {R : List Pl} {rest : List Value} (h : RowG e w g R rest) (hne : g' ≠ g) (x : Pl) : RowG e (set3 w g' o x) g R rest := by
  unfold RowG set3
  rw [Below.heap_setCell _ _ _ _ (fun e => hne e.symm), Below.heap_setCell _ _ _ _ (fun e => hne e.symm), Below.heap_setCell _ _ _ _ (fun e => hne e.symm)]
  exact h
theorem RowG.setv {e : TypeId} {w : World} {g : Nat} {R : List Pl} {rest : List Value} (h : RowG e w g R rest) (i : Nat) (hi : i < R.length) (v : Value) : RowG e (w.setCell ⟨g, i * 3 + 2, none⟩ v) g (putIn R i v) rest := by
  have h1 := heap_setCell_same w g (i * 3 + 2) _ _ v h
  obtain ⟨c0, c1, _⟩ := pc_get R i hi
  unfold RowG putIn
  rw [h1, pc_set R i _ hi]
  have hl := pc_length R
  congr 2
  apply Array.ext'
  simp only [Array.toList_setIfInBounds]
  rw [List.set_append_left _ _ (by omega)]
  have e0 : (pc R).set (i * 3) (.int .u8 ((at' R i).st : Int)) = pc R := by
    apply List.ext_getElem?
    intro j
    rw [List.getElem?_set]
    split
    · rename_i e; subst e
      rw [c0]
      split
      · rfl
      · omega
    · rfl
  have e1 : (pc R).set (i * 3 + 1) (.string (at' R i).key) = pc R := by
    apply List.ext_getElem?
    intro j
    rw [List.getElem?_set]
    split
    · rename_i e; subst e
      rw [c1]
      split
      · rfl
      · omega
    · rfl
  rw [e0, e1]
theorem set3_fr (w : World) (g o : Nat) (x : Pl) {a : World} {S : Nat → Prop} (h : Fr a w S) (hg : g < a.heap.size → S g) : Fr a (set3 w g o x) S :=
  ((h.setCell (p := ⟨g, o, none⟩) hg _).setCell (p := ⟨g, o + 1, none⟩) hg _).setCell (p := ⟨g, o + 2, none⟩) hg _
/-- What make lays. -/
theorem pc_rep (z : Value) (n : Nat) : (madeCells #[.int .u8 0, .string none8, z] (n * 3)) = (pc (List.replicate n (pz z))).toArray := by
  apply Array.ext
  · rw [size_madeCells]
    simp [pc_length]
  · intro i h1 h2
    rw [size_madeCells] at h1
    have hl : (List.replicate n (pz z)).length = n := by simp
    have hq : i / 3 < n := by omega
    obtain ⟨c0, c1, c2⟩ := pc_get (List.replicate n (pz z)) (i / 3) (by rw [hl]; exact hq)
    rw [at_rep z hq] at c0 c1 c2
    have hm : i % 3 = 0 ∨ i % 3 = 1 ∨ i % 3 = 2 := by omega
    have hg : (pc (List.replicate n (pz z)))[i]? = some (#[Value.int .u8 0, .string none8, z][i % 3]!) := by
      rcases hm with hm | hm | hm
      · rw [hm, show i = i / 3 * 3 by omega, c0]; rfl
      · rw [hm, show i = i / 3 * 3 + 1 by omega, c1]; rfl
      · rw [hm, show i = i / 3 * 3 + 2 by omega, c2]; rfl
    have h3 : (madeCells #[.int .u8 0, .string none8, z] (n * 3))[i]? = some (#[Value.int .u8 0, .string none8, z][i % 3]!) := by
      simp [madeCells, h1]
    rw [Array.getElem?_eq_getElem (by rw [size_madeCells]; exact h1)] at h3
    rw [List.getElem?_eq_getElem (by simpa using h2)] at hg
    have := (Option.some.inj h3).trans (Option.some.inj hg).symm
    rw [this]
    simp
end Go.Proofs.YtgbkihkefdoddaaGreatDoor
end

section
/- table: Hash: a walk. -/
namespace Go.Proofs.YtgbkihkefdoddaaGreatDoor
open Go.RowKit

theorem key_ne {a b : ByteArray} (h : a ≠ b) : (a.toList == b.toList) = false := by
  rw [beq_eq_false_iff_ne]
  intro e
  rw [ByteArray.toList_eq, ByteArray.toList_eq] at e
  apply h
  exact ByteArray.ext (Array.toList_inj.1 e)
theorem hashN_lt (s : ByteArray) : ∀ n, hashN s n < 18446744073709551616
  | 0 => by show 14695981039346656037 < 18446744073709551616; decide
  | n + 1 => Nat.mod_lt _ (by decide)
theorem hashN_step (s : ByteArray) (n : Nat) : IntKind.u64.wrap (Go.bits .xor .u64 (hashN s n : Int) (((s.data.getD n 0).toNat : Nat) : Int) * 1099511628211) = (hashN s (n + 1) : Int) := by
  have hb : (s.data.getD n 0).toNat < 18446744073709551616 := Nat.lt_of_lt_of_le (UInt8.toNat_lt _) (by decide)
  rw [bits_xor_u64_nat _ _ (hashN_lt s n) hb]
  have : hashN s (n + 1) = ((hashN s n ^^^ (s.data.getD n 0).toNat) * 1099511628211) % 18446744073709551616 := rfl
  rw [this, IntKind.wrap_u64]
  omega

set_option maxRecDepth 100000 in
theorem hash_any (k : ByteArray) (w : World) (hk : k.size ≤ 9223372036854775807) : Calls Tryz.prog 60 #[.string k] w fun e w' => e = .returned (.int .u64 (hashL k : Int)) ∧ w' = w := by
  go_enter Tryz.func60, Tryz.ntmps60
  go_wp2_with fail
  go_loopg [3, 7] k.size (fun g s3 s7 wx => ∃ i : Nat, s3 = .int .u64 (hashN k i : Int) ∧ s7 = .int .i64 (i : Int) ∧ i + g = k.size ∧ wx = w)
  case atStart => exact ⟨0, rfl, rfl, by omega, rfl⟩
  case round =>
    obtain ⟨i, rfl, rfl, hg, rfl⟩ := hrel
    cases gk with
    | zero =>
      have t1 : ¬ (i : Int) < (k.size : Int) := by omega
      have HE := hid (show i = k.size by omega)
      clear hg
      go_wp2_with fail
      go_ret
      exact ⟨by rw [HE.out]; rfl, rfl⟩
    | succ g =>
      have t1 : (i : Int) < (k.size : Int) := by omega
      have t0 : (0 : Int) ≤ (i : Int) := by omega
      have HG := hid hg
      have hi : i < k.size := by omega
      have HI := hid hi
      clear hg
      go_wp2_with fail
      go_roundg g
      case measure => omega
      case rel =>
        refine ⟨i + 1, ?_, by go_num, by have := HG.out; omega, rfl⟩
        rw [← hashN_step k i]
        have e1 : (k[i]'HI.out).toNat = (k.data.getD i 0).toNat := by
          have h2 : i < k.data.size := HI.out
          simp only [Array.getD_eq_getD_getElem?, Array.getElem?_eq_getElem h2]
          rfl
        have e2 : ((k.data.getD i 0).toNat : Int) < 256 := by have := UInt8.toNat_lt (k.data.getD i 0); omega
        rw [e1, show IntKind.u64.wrap (((k.data.getD i 0).toNat : Nat) : Int) = (((k.data.getD i 0).toNat : Nat) : Int) from by rw [IntKind.wrap_u64]; omega]
end Go.Proofs.YtgbkihkefdoddaaGreatDoor
end

section
/- A table's rows in memory, where a value is a shard's row: blocks of places, six cells a place. -/
namespace Go.Proofs.YtgbkihkefdoddaaGreatDoor.R
open Go.RowKit

/-- A shard's row: a cell, and where its chain lies. -/
structure Rw where
  v : Int
  k : ByteArray
  s : Int
  p : Option Addr
def rz : Rw := ⟨0, ⟨#[]⟩, 0, none⟩
def vl : Value → Rw
  | .agg a => match a.toList with
    | [.int .i64 v, .string k, .int .i64 s, .pointer p] => ⟨v, k, s, p⟩
    | _ => rz
  | _ => rz
theorem vl_x (x : Rw) : vl (.agg #[.int .i64 x.v, .string x.k, .int .i64 x.s, .pointer x.p]) = x := rfl
theorem vl_z : vl (.agg #[.int .i64 0, .string ⟨#[]⟩, .int .i64 0, .pointer none]) = rz := rfl

/-- Places as values. -/
def pc : List Pl → List Value
  | [] => []
  | x :: L => .int .u8 (x.st : Int) :: .string x.key :: .int .i64 (vl x.val).v :: .string (vl x.val).k :: .int .i64 (vl x.val).s :: .pointer (vl x.val).p :: pc L
theorem pc_length (L : List Pl) : (pc L).length = L.length * 6 := by
  induction L with
  | nil => rfl
  | cons x L ih => simp only [pc, List.length_cons, ih]; omega
theorem pc_get : ∀ (L : List Pl) (i : Nat), i < L.length → (pc L)[i * 6]? = some (.int .u8 ((at' L i).st : Int)) ∧ (pc L)[i * 6 + 1]? = some (.string (at' L i).key) ∧ (pc L)[i * 6 + 2]? = some (.int .i64 (vl (at' L i).val).v) ∧ (pc L)[i * 6 + 3]? = some (.string (vl (at' L i).val).k) ∧ (pc L)[i * 6 + 4]? = some (.int .i64 (vl (at' L i).val).s) ∧ (pc L)[i * 6 + 5]? = some (.pointer (vl (at' L i).val).p)
  | [], i, h => by simp at h
  | x :: L, 0, _ => ⟨rfl, rfl, rfl, rfl, rfl, rfl⟩
  | x :: L, i + 1, h => by
    have := pc_get L i (by simpa using h)
    rw [show (i + 1) * 6 = i * 6 + 6 by omega]
    simpa [pc, at'] using this
theorem pc_set : ∀ (L : List Pl) (i : Nat) (x : Pl), i < L.length → pc (L.set i x) = ((((((pc L).set (i * 6) (.int .u8 (x.st : Int))).set (i * 6 + 1) (.string x.key)).set (i * 6 + 2) (.int .i64 (vl x.val).v)).set (i * 6 + 3) (.string (vl x.val).k)).set (i * 6 + 4) (.int .i64 (vl x.val).s)).set (i * 6 + 5) (.pointer (vl x.val).p)
  | [], i, x, h => by simp at h
  | y :: L, 0, x, _ => rfl
  | y :: L, i + 1, x, h => by
    have := pc_set L i x (by simpa using h)
    rw [show (i + 1) * 6 = i * 6 + 6 by omega]
    simp [pc, this]

/-- A block that holds places, and more behind them. -/
def RowG (e : TypeId) (w : World) (g : Nat) (L : List Pl) (rest : List Value) : Prop := w.heap[g]? = some (.cells (pc L ++ rest).toArray e (0, 0))
theorem RowG.lt {e : TypeId} {w : World} {g : Nat} {R : List Pl} {rest : List Value} (h : RowG e w g R rest) : g < w.heap.size := lt_of_block h
theorem RowG.fr {e : TypeId} {w w' : World} {S : Nat → Prop} {g : Nat} {R : List Pl} {rest : List Value} (h : RowG e w g R rest) (hf : Fr w w' S) (hS : ¬ S g) : RowG e w' g R rest := by
  unfold RowG
  rw [hf.block g h.lt hS]
  exact h
theorem RowG.free {e : TypeId} {w : World} {g : Nat} {R : List Pl} {rest : List Value} (h : RowG e w g R rest) (o : Nat) : w.frozen? ⟨g, o, none⟩ = false := by
  have h' : w.heap[g]? = some (.cells (pc R ++ rest).toArray e (0, 0)) := h
  simp [World.frozen?, h']
theorem RowG.cell {e : TypeId} {w : World} {g : Nat} {R : List Pl} {rest : List Value} (h : RowG e w g R rest) {o : Nat} {u : Value} (ho : (pc R)[o]? = some u) : w.cell? ⟨g, o, none⟩ = some u := by
  rw [cell_of_row w g _ _ _ (0, 0) h]
  have hl : o < (pc R).length := by
    rcases Nat.lt_or_ge o (pc R).length with h1 | h1
    · exact h1
    · rw [List.getElem?_eq_none h1] at ho; cases ho
  simp [List.getElem?_append_left hl, ho]
theorem RowG.cells {e : TypeId} {w : World} {g : Nat} {R : List Pl} {rest : List Value} (h : RowG e w g R rest) (i : Nat) (hi : i < R.length) : w.cell? ⟨g, i * 6, none⟩ = some (.int .u8 ((at' R i).st : Int)) ∧ w.cell? ⟨g, i * 6 + 1, none⟩ = some (.string (at' R i).key) ∧ w.cell? ⟨g, i * 6 + 2, none⟩ = some (.int .i64 (vl (at' R i).val).v) ∧ w.cell? ⟨g, i * 6 + 3, none⟩ = some (.string (vl (at' R i).val).k) ∧ w.cell? ⟨g, i * 6 + 4, none⟩ = some (.int .i64 (vl (at' R i).val).s) ∧ w.cell? ⟨g, i * 6 + 5, none⟩ = some (.pointer (vl (at' R i).val).p) := by
  obtain ⟨h1, h2, h3, h4, h5, h6⟩ := pc_get R i hi
  exact ⟨h.cell h1, h.cell h2, h.cell h3, h.cell h4, h.cell h5, h.cell h6⟩
theorem RowG.cellx {e : TypeId} {w : World} {g : Nat} {R : List Pl} {rest : List Value} (h : RowG e w g R rest) (i : Nat) (hi : i < R.length) {x : Rw} (hx : (at' R i).val = .agg #[.int .i64 x.v, .string x.k, .int .i64 x.s, .pointer x.p]) : w.cell? ⟨g, i * 6, none⟩ = some (.int .u8 ((at' R i).st : Int)) ∧ w.cell? ⟨g, i * 6 + 1, none⟩ = some (.string (at' R i).key) ∧ w.cell? ⟨g, i * 6 + 2, none⟩ = some (.int .i64 x.v) ∧ w.cell? ⟨g, i * 6 + 3, none⟩ = some (.string x.k) ∧ w.cell? ⟨g, i * 6 + 4, none⟩ = some (.int .i64 x.s) ∧ w.cell? ⟨g, i * 6 + 5, none⟩ = some (.pointer x.p) := by
  have := h.cells i hi
  rw [hx] at this
  exact this
/-- The world behind a place's store, and a value's alone. -/
def set4 (w : World) (g o : Nat) (x : Rw) : World := (((w.setCell ⟨g, o + 2, none⟩ (.int .i64 x.v)).setCell ⟨g, o + 3, none⟩ (.string x.k)).setCell ⟨g, o + 4, none⟩ (.int .i64 x.s)).setCell ⟨g, o + 5, none⟩ (.pointer x.p)
def set6 (w : World) (g o : Nat) (st : Nat) (key : ByteArray) (x : Rw) : World := set4 ((w.setCell ⟨g, o, none⟩ (.int .u8 (st : Int))).setCell ⟨g, o + 1, none⟩ (.string key)) g o x
theorem RowG.set {e : TypeId} {w : World} {g : Nat} {R : List Pl} {rest : List Value} (h : RowG e w g R rest) (i : Nat) (hi : i < R.length) (st : Nat) (key : ByteArray) (x : Rw) : RowG e (set6 w g (i * 6) st key x) g (R.set i ⟨st, key, .agg #[.int .i64 x.v, .string x.k, .int .i64 x.s, .pointer x.p]⟩) rest := by
  have h1 := heap_setCell_same w g (i * 6) _ _ (.int .u8 (st : Int)) h
  have h2 := heap_setCell_same _ g (i * 6 + 1) _ _ (.string key) h1
  have h3 := heap_setCell_same _ g (i * 6 + 2) _ _ (.int .i64 x.v) h2
  have h4 := heap_setCell_same _ g (i * 6 + 3) _ _ (.string x.k) h3
  have h5 := heap_setCell_same _ g (i * 6 + 4) _ _ (.int .i64 x.s) h4
  have h6 := heap_setCell_same _ g (i * 6 + 5) _ _ (.pointer x.p) h5
  unfold RowG set6 set4
  rw [h6, pc_set R i _ hi]
  have hl := pc_length R
  refine congrArg (fun a => some (Obj.cells a e (0, 0))) (Array.ext' ?_)
  simp only [Array.toList_setIfInBounds, vl_x]
  rw [List.set_append_left _ _ (by omega), List.set_append_left _ _ (by simp; omega), List.set_append_left _ _ (by simp; omega), List.set_append_left _ _ (by simp; omega), List.set_append_left _ _ (by simp; omega), List.set_append_left _ _ (by simp; omega)]
theorem set_same {L : List Value} {j : Nat} {u : Value} (h : L[j]? = some u) : L.set j u = L := by
  apply List.ext_getElem?
  intro k
  rw [List.getElem?_set]
  split
  · rename_i e; subst e
    rw [h]
    split
    · rfl
    · rename_i h2
      rw [List.getElem?_eq_none (by omega)] at h
      cases h
  · rfl
theorem RowG.setv {e : TypeId} {w : World} {g : Nat} {R : List Pl} {rest : List Value} (h : RowG e w g R rest) (i : Nat) (hi : i < R.length) (x : Rw) : RowG e (set4 w g (i * 6) x) g (putIn R i (.agg #[.int .i64 x.v, .string x.k, .int .i64 x.s, .pointer x.p])) rest := by
  have h3 := heap_setCell_same w g (i * 6 + 2) _ _ (.int .i64 x.v) h
  have h4 := heap_setCell_same _ g (i * 6 + 3) _ _ (.string x.k) h3
  have h5 := heap_setCell_same _ g (i * 6 + 4) _ _ (.int .i64 x.s) h4
  have h6 := heap_setCell_same _ g (i * 6 + 5) _ _ (.pointer x.p) h5
  obtain ⟨c0, c1, _⟩ := pc_get R i hi
  unfold RowG putIn set4
  rw [h6, pc_set R i _ hi, set_same c0, set_same c1]
  have hl := pc_length R
  refine congrArg (fun a => some (Obj.cells a e (0, 0))) (Array.ext' ?_)
  simp only [Array.toList_setIfInBounds, vl_x]
  rw [List.set_append_left _ _ (by omega), List.set_append_left _ _ (by simp; omega), List.set_append_left _ _ (by simp; omega), List.set_append_left _ _ (by simp; omega)]
theorem set4_fr (w : World) (g o : Nat) (x : Rw) {a : World} {S : Nat → Prop} (h : Fr a w S) (hg : g < a.heap.size → S g) : Fr a (set4 w g o x) S :=
  (((h.setCell (p := ⟨g, o + 2, none⟩) hg _).setCell (p := ⟨g, o + 3, none⟩) hg _).setCell (p := ⟨g, o + 4, none⟩) hg _).setCell (p := ⟨g, o + 5, none⟩) hg _
theorem set6_fr (w : World) (g o : Nat) (st : Nat) (key : ByteArray) (x : Rw) {a : World} {S : Nat → Prop} (h : Fr a w S) (hg : g < a.heap.size → S g) : Fr a (set6 w g o st key x) S :=
  set4_fr _ g o x ((h.setCell (p := ⟨g, o, none⟩) hg _).setCell (p := ⟨g, o + 1, none⟩) hg _) hg
/-- What make lays. -/
theorem pc_rep (n : Nat) : (madeCells #[.int .u8 0, .string none8, .int .i64 0, .string ⟨#[]⟩, .int .i64 0, .pointer none] (n * 6)) = (pc (List.replicate n (pz (.agg #[.int .i64 0, .string ⟨#[]⟩, .int .i64 0, .pointer none])))).toArray := by
  apply Array.ext
  · rw [size_madeCells]
    simp [pc_length]
  · intro i h1 h2
    rw [size_madeCells] at h1
    have hl : (List.replicate n (pz (.agg #[.int .i64 0, .string ⟨#[]⟩, .int .i64 0, .pointer none]))).length = n := by simp
    have hq : i / 6 < n := by omega
    obtain ⟨c0, c1, c2, c3, c4, c5⟩ := pc_get (List.replicate n (pz (.agg #[.int .i64 0, .string ⟨#[]⟩, .int .i64 0, .pointer none]))) (i / 6) (by rw [hl]; exact hq)
    rw [at_rep _ hq] at c0 c1 c2 c3 c4 c5
    have hm : i % 6 = 0 ∨ i % 6 = 1 ∨ i % 6 = 2 ∨ i % 6 = 3 ∨ i % 6 = 4 ∨ i % 6 = 5 := by omega
    have hg : (pc (List.replicate n (pz (.agg #[.int .i64 0, .string ⟨#[]⟩, .int .i64 0, .pointer none]))))[i]? = some (#[Value.int .u8 0, .string none8, .int .i64 0, .string ⟨#[]⟩, .int .i64 0, .pointer none][i % 6]!) := by
      rcases hm with hm | hm | hm | hm | hm | hm
      · rw [hm, show i = i / 6 * 6 by omega, c0]; rfl
      · rw [hm, show i = i / 6 * 6 + 1 by omega, c1]; rfl
      · rw [hm, show i = i / 6 * 6 + 2 by omega, c2]; rfl
      · rw [hm, show i = i / 6 * 6 + 3 by omega, c3]; rfl
      · rw [hm, show i = i / 6 * 6 + 4 by omega, c4]; rfl
      · rw [hm, show i = i / 6 * 6 + 5 by omega, c5]; rfl
    have h3 : (madeCells #[.int .u8 0, .string none8, .int .i64 0, .string ⟨#[]⟩, .int .i64 0, .pointer none] (n * 6))[i]? = some (#[Value.int .u8 0, .string none8, .int .i64 0, .string ⟨#[]⟩, .int .i64 0, .pointer none][i % 6]!) := by
      simp [madeCells, h1]
    rw [Array.getElem?_eq_getElem (by rw [size_madeCells]; exact h1)] at h3
    rw [List.getElem?_eq_getElem (by simpa using h2)] at hg
    have := (Option.some.inj h3).trans (Option.some.inj hg).symm
    rw [this]
    simp
end Go.Proofs.YtgbkihkefdoddaaGreatDoor.R
end

section
/- table: home, next, way, look of a row: walks. -/
namespace Go.Proofs.YtgbkihkefdoddaaGreatDoor.R
open Go.RowKit


set_option maxRecDepth 100000 in
theorem home_any (g cap : Nat) (r : List Pl) (k : ByteArray) (w : World) (hk : k.size ≤ 9223372036854775807) (hn : 0 < r.length) (hb : r.length ≤ 1099511627776) :
    Calls Tryz.prog 169 #[.slice (some ⟨g, 0, none⟩) r.length cap, .string k] w fun e w' => e = .returned (.int .i64 (homeL r k : Int)) ∧ w' = w := by
  have t1 : ((r.length : Int) == 0) = false := by simp; rintro rfl; simp at hn
  have HH := hid (hash_any k w hk)
  have hl : homeL r k < r.length := homeL_lt k hn
  have HL := hid (show (hashL k : Int) % (r.length : Int) = (homeL r k : Int) from rfl)
  have h2 : (hashL k : Int) < 18446744073709551616 := by have := hashN_lt k k.size; unfold hashL; omega
  have h3 : (0 : Int) ≤ (hashL k : Int) := by omega
  go_enter Tryz.func169, Tryz.ntmps169
  go_wp2_with fail
  refine HH.out.mono ?_
  rintro e w1 ⟨rfl, hw1⟩
  have hw1 := hw1.symm
  subst hw1
  go_wp2_with fail
  go_ret
  refine ⟨congrArg (fun x => Ending.returned (.int .i64 x)) ?_, rfl⟩
  rw [HL.out]
  unfold wrap64
  omega

set_option maxRecDepth 100000 in
theorem next_any (g cap : Nat) (n i : Nat) (w : World) (hi : i < n) (hb : n ≤ 1099511627776) :
    Calls Tryz.prog 168 #[.slice (some ⟨g, 0, none⟩) n cap, .int .i64 (i : Int)] w fun e w' => e = .returned (.int .i64 (nx n i : Int)) ∧ w' = w := by
  have t1 : ((n : Int) == 0) = false := by simp; omega
  have HL := hid (show ((i : Int) + 1) % (n : Int) = (nx n i : Int) from by
    rw [← nx_mod hi]; rfl)
  go_enter Tryz.func168, Tryz.ntmps168
  go_wp2_with fail
  go_ret
  exact ⟨congrArg (fun x => Ending.returned (.int .i64 x)) HL.out, rfl⟩

set_option maxRecDepth 100000 in
theorem way_any (g cap : Nat) (n a b : Nat) (w : World) (ha : a < n) (hb2 : b < n) (hb : n ≤ 1099511627776) :
    Calls Tryz.prog 170 #[.slice (some ⟨g, 0, none⟩) n cap, .int .i64 (a : Int), .int .i64 (b : Int)] w fun e w' => e = .returned (.int .i64 (ds n a b : Int)) ∧ w' = w := by
  have t1 : ((n : Int) == 0) = false := by simp; omega
  have HL := hid (show ((b : Int) - (a : Int) + (n : Int)) % (n : Int) = (ds n a b : Int) from by
    rw [← ds_mod ha hb2]
    rw [show (b : Int) - (a : Int) + (n : Int) = ((b + n - a : Nat) : Int) by omega]
    rfl)
  go_enter Tryz.func170, Tryz.ntmps170
  go_wp2_with fail
  go_ret
  exact ⟨congrArg (fun x => Ending.returned (.int .i64 x)) HL.out, rfl⟩

theorem row_nil (W : World) (g n cap : Nat) : (binOp .eql 186 (.slice (some ⟨g, 0, none⟩) n cap) (.slice none 0 0)).run Tryz.prog W = .ok (.bool false) W := by kernel_rfl
theorem row_is_nil (W : World) : (binOp .eql 186 (.slice none 0 0) (.slice none 0 0)).run Tryz.prog W = .ok (.bool true) W := by kernel_rfl

set_option maxHeartbeats 1000000 in
set_option maxRecDepth 100000 in
theorem look_any {g cap : Nat} {r : List Pl} {rest : List Value} (k : ByteArray) (w : World) (hR : RowG 195 w g r rest) (hE : Emp r) (hk : k.size ≤ 9223372036854775807) (hb : r.length ≤ 1099511627776) :
    Calls Tryz.prog 167 #[.slice (some ⟨g, 0, none⟩) r.length cap, .string k] w fun e w' => e = .returned (.tuple #[.int .i64 ((lookL r k).1 : Int), .bool (lookL r k).2]) ∧ w' = w := by
  obtain ⟨j, hj, hj0⟩ := hE
  have hn : 0 < r.length := by omega
  have HH := hid (home_any g cap r k w hk hn hb)
  have hh := homeL_lt k hn
  have HD := hid (ds_lt hh hj)
  have HR := hid hR
  have HJ := hid hj
  have HJ0 := hid hj0
  have HS : Hid (lookF r k r.length (homeL r k) = lookL r k) := by
    unfold Hid lookL
    rw [if_neg (by omega)]
  have hgl := hR.lt
  have hrn := row_nil
  clear hR hj hj0
  go_enter Tryz.func167, Tryz.ntmps167
  go_wp2_with fail
  refine HH.out.mono ?_
  rintro e w1 ⟨rfl, hw1⟩
  have hw1 := hw1.symm
  subst hw1
  go_wp2_with fail
  go_loopg [4] r.length (fun gk s4 wx => ∃ i : Nat, s4 = .int .i64 (i : Int) ∧ i < r.length ∧ Hid (lookF r k gk i = lookL r k) ∧ Hid (ds r.length i j < gk) ∧ wx = w)
  case atStart => exact ⟨homeL r k, rfl, hh, HS, HD, rfl⟩
  case round =>
    obtain ⟨i, rfl, hi, HLk, HDs, rfl⟩ := hrel
    clear HS HD HH
    have t0 : (0 : Int) ≤ (i : Int) := by omega
    have t1 : (i : Int) < (r.length : Int) := by omega
    have HI := hid hi
    obtain ⟨c0, c1, _⟩ := HR.out.cells i hi
    cases gk with
    | zero => exact absurd HDs.out (Nat.not_lt_zero _)
    | succ f =>
      by_cases h0 : (at' r i).st = 0
      · have HF : Hid (lookL r k = (i, false)) := by
          have := HLk.out
          unfold lookF at this
          rw [if_pos h0] at this
          exact this.symm
        rw [h0] at c0
        clear h0 c1
        go_wp2_with fail
        go_ret2
        rw [HF.out]
        exact ⟨rfl, rfl⟩
      · by_cases h1 : (at' r i).st = 1
        · rw [h1] at c0
          by_cases h2 : (at' r i).key = k
          · rw [h2] at c1
            have HF : Hid (lookL r k = (i, true)) := by
              have := HLk.out
              unfold lookF at this
              rw [if_neg h0, if_pos ⟨h1, h2⟩] at this
              exact this.symm
            clear h0 h1 h2
            go_wp2_with fail
            go_ret2
            rw [HF.out]
            exact ⟨rfl, rfl⟩
          · have HF : Hid (lookF r k f (nx r.length i) = lookL r k) := by
              have := HLk.out
              unfold lookF at this
              rw [if_neg h0, if_neg (fun h => h2 h.2)] at this
              exact this
            have HN := hid (ds_nx hi HJ.out (fun e => h0 (by rw [e]; exact HJ0.out)))
            have t2 : ((at' r i).key.toList == k.toList) = false := key_ne h2
            have HX := hid (next_any g cap r.length i wr hi hb)
            clear h0 h1
            generalize (at' r i).key = k2 at *
            go_wp2_with fail
            refine HX.out.mono ?_
            rintro e w1 ⟨rfl, hw1⟩
            have hw1 := hw1.symm
            subst hw1
            go_wp2_with fail
            go_roundg f
            case measure => omega
            case rel => exact ⟨nx r.length i, rfl, nx_lt HI.out, HF, by have h5 := HN.out; have h6 := HDs.out; show ds r.length (nx r.length i) j < f; omega, rfl⟩
        · have HF : Hid (lookF r k f (nx r.length i) = lookL r k) := by
            have := HLk.out
            unfold lookF at this
            rw [if_neg h0, if_neg (fun h => h1 h.1)] at this
            exact this
          have HN := hid (ds_nx hi HJ.out (fun e => h0 (by rw [e]; exact HJ0.out)))
          have t2 : (((at' r i).st : Int) == 0) = false := by simp; exact h0
          have t3 : (((at' r i).st : Int) == 1) = false := by simp; omega
          have HX := hid (next_any g cap r.length i wr hi hb)
          clear h0 h1 c1
          generalize (at' r i).st = st at *
          go_wp2_with fail
          refine HX.out.mono ?_
          rintro e w1 ⟨rfl, hw1⟩
          have hw1 := hw1.symm
          subst hw1
          go_wp2_with fail
          go_roundg f
          case measure => omega
          case rel => exact ⟨nx r.length i, rfl, nx_lt HI.out, HF, by have h5 := HN.out; have h6 := HDs.out; show ds r.length (nx r.length i) j < f; omega, rfl⟩

theorem look_nil (k : ByteArray) (w : World) :
    Calls Tryz.prog 167 #[.slice none 0 0, .string k] w fun e w' => e = .returned (.tuple #[.int .i64 0, .bool false]) ∧ w' = w := by
  have hrn := row_is_nil
  go_enter Tryz.func167, Tryz.ntmps167
  go_wp2_with fail
  go_ret2
  exact ⟨rfl, rfl⟩
end Go.Proofs.YtgbkihkefdoddaaGreatDoor.R
end

section
/- table: lay, give, mend of a row: walks. -/
namespace Go.Proofs.YtgbkihkefdoddaaGreatDoor.R
open Go.RowKit

theorem cells2 {w : World} {N : Nat} {a b : Value} {e : TypeId} (h : w.heap[N]? = some (.cells #[a, b] e (0, 0))) : w.cell? ⟨N, 0, none⟩ = some a ∧ w.cell? ⟨N, 1, none⟩ = some b := by
  refine ⟨?_, ?_⟩ <;> simp [World.cell?, h]

/-- Values of the table's type. -/
def isV (v : Value) : Prop := ∃ x : Rw, v = .agg #[.int .i64 x.v, .string x.k, .int .i64 x.s, .pointer x.p]
def okP (p : Pl) : Prop := isV p.val ∧ p.key.size ≤ 9223372036854775807
def Vok (r : List Pl) : Prop := ∀ i, i < r.length → okP (at' r i)
theorem Vok.set {r : List Pl} (h : Vok r) (i : Nat) (p : Pl) (hi : i < r.length) (hp : okP p) : Vok (r.set i p) := by
  intro j hj
  rw [at_set _ _ _ _ hi]
  split
  · exact hp
  · exact h j (by simpa using hj)
theorem isV_z : isV (.agg #[.int .i64 0, .string ⟨#[]⟩, .int .i64 0, .pointer none]) := ⟨rz, rfl⟩
theorem okP_z : okP (pz (.agg #[.int .i64 0, .string ⟨#[]⟩, .int .i64 0, .pointer none])) := ⟨isV_z, Nat.zero_le _⟩
theorem okP_g : okP (pg (.agg #[.int .i64 0, .string ⟨#[]⟩, .int .i64 0, .pointer none])) := ⟨isV_z, Nat.zero_le _⟩
theorem Vok.rep (n : Nat) : Vok (List.replicate n (pz (.agg #[.int .i64 0, .string ⟨#[]⟩, .int .i64 0, .pointer none]))) := by
  intro i hi
  rw [at_rep _ (by simpa using hi)]
  exact okP_z

set_option maxHeartbeats 1000000 in
set_option maxRecDepth 100000 in
theorem lay_any {g cap : Nat} {r : List Pl} {rest : List Value} (k : ByteArray) (x : Rw) (w : World) (hR : RowG 195 w g r rest) (hE : Emp r) (hk : k.size ≤ 9223372036854775807) (hb : r.length ≤ 1099511627776) :
    Calls Tryz.prog 152 #[.slice (some ⟨g, 0, none⟩) r.length cap, .agg #[.string k, .int .i64 x.v, .string x.k, .int .i64 x.s, .pointer x.p]] w fun e w' => e = .returned (.tuple #[]) ∧ RowG 195 w' g (layP r k (.agg #[.int .i64 x.v, .string x.k, .int .i64 x.s, .pointer x.p])) rest ∧ Fr w w' (fun b => b = g) := by
  have HR1 := hid (hR.fr (alloc_fr w (.cells #[.string k, .int .i64 x.v, .string x.k, .int .i64 x.s, .pointer x.p] 193) (fun _ => False)) (fun h => h))
  have HLk := hid (look_any (cap := cap) k _ HR1.out hE hk hb)
  have hl := (lookL_spec k hE).1
  have hgl := hR.lt
  unfold layP
  generalize (lookL r k).1 = i at *
  generalize (lookL r k).2 = there at *
  have hgn : w.heap.size ≠ g := by omega
  obtain ⟨c0, c1, c2, c3, c4, c5⟩ := hR.cells i hl
  have f0 := hR.free (i * 6)
  have f1 := hR.free (i * 6 + 1)
  have f2 := hR.free (i * 6 + 2)
  have f3 := hR.free (i * 6 + 3)
  have f4 := hR.free (i * 6 + 4)
  have f5 := hR.free (i * 6 + 5)
  have t0 : (0 : Int) ≤ (i : Int) := by omega
  have t1 : (i : Int) < (r.length : Int) := by omega
  have HL := hid hl
  have HR := hid hR
  clear hR
  go_enter Tryz.func152, Tryz.ntmps152
  go_wp2_with fail
  refine HLk.out.mono ?_
  rintro e w1 ⟨rfl, hw1⟩
  subst hw1
  go_wp2_with fail
  go_end0
  exact ⟨rfl, ((HR.out.set i HL.out 1 k x).fr (alloc_fr _ _ (fun _ => False)) (fun h => h)), (set6_fr w g (i * 6) 1 k x (Fr.refl w (fun b => b = g)) (fun _ => rfl)).alloc _⟩

set_option maxHeartbeats 1000000 in
set_option maxRecDepth 100000 in
theorem give_any {g cap : Nat} {r : List Pl} {rest : List Value} (i : Nat) (w : World) (hR : RowG 195 w g r rest) (hi : i < r.length) (hV : Vok r) (_hb : r.length ≤ 1099511627776) :
    Calls Tryz.prog 145 #[.slice (some ⟨g, 0, none⟩) r.length cap, .int .i64 (i : Int)] w fun e w' => e = .returned (.agg #[.string (at' r i).key, .int .i64 (vl (at' r i).val).v, .string (vl (at' r i).val).k, .int .i64 (vl (at' r i).val).s, .pointer (vl (at' r i).val).p]) ∧ RowG 195 w' g (r.set i (pg (.agg #[.int .i64 0, .string ⟨#[]⟩, .int .i64 0, .pointer none]))) rest ∧ Fr w w' (fun b => b = g) := by
  obtain ⟨⟨x, hx⟩, _⟩ := hV i hi
  obtain ⟨c0, c1, c2, c3, c4, c5⟩ := hR.cellx i hi hx
  have f0 := hR.free (i * 6)
  have f1 := hR.free (i * 6 + 1)
  have f2 := hR.free (i * 6 + 2)
  have f3 := hR.free (i * 6 + 3)
  have f4 := hR.free (i * 6 + 4)
  have f5 := hR.free (i * 6 + 5)
  rw [hx, vl_x]
  have hgl := hR.lt
  have HR := hid hR
  have HI := hid hi
  have t0 : (0 : Int) ≤ (i : Int) := by omega
  have t1 : (i : Int) < (r.length : Int) := by omega
  generalize (at' r i).key = k at *
  have hgn : w.heap.size ≠ g := by omega
  have hgn1 : w.heap.size + 1 ≠ g := by omega
  clear hV hR
  go_enter Tryz.func145, Tryz.ntmps145
  go_wp2_with fail
  refine bodyPost_ret (v := .agg #[.string k, .int .i64 x.v, .string x.k, .int .i64 x.s, .pointer x.p]) (by simp [results, Tryz.results145, go_sem]) rfl ⟨rfl, ?_⟩
  exact ⟨((HR.out.set i HI.out 2 none8 rz).fr ((alloc_fr _ _ (fun _ => False)).alloc _) (fun h => h)), ((set6_fr w g (i * 6) 2 none8 rz (Fr.refl w (fun b => b = g)) (fun _ => rfl)).alloc _).alloc _⟩

set_option maxHeartbeats 600000 in
set_option maxRecDepth 100000 in
theorem mend_any {g cap : Nat} {r : List Pl} {rest : List Value} (i0 j : Nat) (w : World) (hR : RowG 195 w g r rest) (hi : i0 < r.length) (hj : j < r.length) (hj0 : (at' r j).st = 0) (hij : j ≠ i0) (hV : Vok r) (hb : r.length ≤ 1099511627776) :
    Calls Tryz.prog 146 #[.slice (some ⟨g, 0, none⟩) r.length cap, .int .i64 (i0 : Int)] w fun e w' => e = .returned (.tuple #[]) ∧ RowG 195 w' g (mendL (.agg #[.int .i64 0, .string ⟨#[]⟩, .int .i64 0, .pointer none]) r i0) rest ∧ Vok (mendL (.agg #[.int .i64 0, .string ⟨#[]⟩, .int .i64 0, .pointer none]) r i0) ∧ Fr w w' (fun b => b = g) := by
  obtain ⟨c0, c1, c2, c3, c4, c5⟩ := hR.cells i0 hi
  have f0 := hR.free (i0 * 6)
  have f1 := hR.free (i0 * 6 + 1)
  have f2 := hR.free (i0 * 6 + 2)
  have f3 := hR.free (i0 * 6 + 3)
  have f4 := hR.free (i0 * 6 + 4)
  have f5 := hR.free (i0 * 6 + 5)
  have hgl := hR.lt
  have t0 : (0 : Int) ≤ (i0 : Int) := by omega
  have t1 : (i0 : Int) < (r.length : Int) := by omega
  have HR0 := hid (show RowG 195 (set6 w g (i0 * 6) 0 none8 rz) g (r.set i0 (pz (.agg #[.int .i64 0, .string ⟨#[]⟩, .int .i64 0, .pointer none]))) rest from hR.set i0 hi 0 none8 rz)
  have HF0 := hid (set6_fr w g (i0 * 6) 0 none8 rz (Fr.refl w (fun b => b = g)) (fun _ => rfl))
  have HV0 := hid (hV.set i0 (pz (.agg #[.int .i64 0, .string ⟨#[]⟩, .int .i64 0, .pointer none])) hi okP_z)
  have HJ0 := hid (show (at' (r.set i0 (pz (.agg #[.int .i64 0, .string ⟨#[]⟩, .int .i64 0, .pointer none]))) j).st = 0 by rw [at_set _ _ _ _ hi, if_neg (fun e => hij e.symm)]; exact hj0)
  have HD := hid (ds_lt (nx_lt hi) hj)
  have hn := nx_lt hi
  have HIJ := hid hij
  have HJ := hid hj
  have HI := hid hi
  have HX := hid (fun W => next_any g cap r.length i0 W hi hb)
  unfold set6 set4 pz rz at HR0
  unfold set6 set4 rz at HF0
  dsimp only at HR0 HF0
  clear hV hR hij hj0 hj
  go_enter Tryz.func146, Tryz.ntmps146
  go_wp2_with fail
  refine (HX.out _).mono ?_
  rintro e w1 ⟨rfl, hw1⟩
  have HR1 : Hid (RowG 195 w1 g (r.set i0 (pz (.agg #[.int .i64 0, .string ⟨#[]⟩, .int .i64 0, .pointer none]))) rest) := by rw [hw1]; exact HR0
  have HF1 : Hid (Fr w w1 (fun b => b = g)) := by rw [hw1]; exact HF0
  clear hw1 c0 c1 c2 c3 c4 c5 f0 f1 f2 f3 f4 f5 HR0 HF0 t0 t1
  go_wp2_with fail
  go_loopg [1, 4] r.length (fun gk s1 s4 wx => ∃ (i k : Nat) (R : List Pl), s1 = .int .i64 (i : Int) ∧ s4 = .int .i64 (k : Int) ∧ i < r.length ∧ k < r.length ∧ Hid (R.length = r.length) ∧ Hid (mendF (.agg #[.int .i64 0, .string ⟨#[]⟩, .int .i64 0, .pointer none]) gk R i k = mendL (.agg #[.int .i64 0, .string ⟨#[]⟩, .int .i64 0, .pointer none]) r i0) ∧ Hid (ds r.length k j < gk) ∧ Hid (j ≠ i) ∧ Hid ((at' R i).st = 0) ∧ Hid ((at' R j).st = 0) ∧ Hid (Vok R) ∧ Hid (RowG 195 wx g R rest) ∧ Hid (Fr w wx (fun b => b = g)))
  case atStart => exact ⟨i0, nx r.length i0, _, rfl, rfl, hi, hn, by show (r.set i0 (pz (.agg #[.int .i64 0, .string ⟨#[]⟩, .int .i64 0, .pointer none]))).length = _; simp, by show mendF _ _ _ _ _ = mendL _ r i0; rfl, HD, HIJ, by show (at' (r.set i0 (pz (.agg #[.int .i64 0, .string ⟨#[]⟩, .int .i64 0, .pointer none]))) i0).st = 0; rw [at_set _ _ _ _ hi, if_pos rfl]; rfl, HJ0, HV0, HR1, HF1⟩
  case round =>
    obtain ⟨i, k, R, rfl, rfl, hi, hk, HLen, HMd, HDs, HIj, HRi, HRj, HV, HR, HF⟩ := hrel
    clear HR1 HF1 HD HIJ HJ0 HV0 HX
    have t2 : (0 : Int) ≤ (k : Int) := by omega
    have t3 : (k : Int) < (r.length : Int) := by omega
    have hkR : k < R.length := by rw [HLen.out]; exact hk
    have hiR : i < R.length := by rw [HLen.out]; exact hi
    obtain ⟨c0, c1, c2, c3, c4, c5⟩ := HR.out.cells k hkR
    have hglr := HR.out.lt
    cases gk with
    | zero => exact absurd HDs.out (Nat.not_lt_zero _)
    | succ f =>
      by_cases h0 : (at' R k).st = 0
      · have HE : Hid (R = mendL (.agg #[.int .i64 0, .string ⟨#[]⟩, .int .i64 0, .pointer none]) r i0) := by
          have := HMd.out
          unfold mendF at this
          rw [if_pos h0] at this
          exact this
        rw [h0] at c0
        clear h0 c1 c2 c3 c4 c5
        go_wp2_with fail
        go_end0
        rw [← HE.out]
        exact ⟨rfl, HR.out, HV.out, HF.out⟩
      · obtain ⟨⟨x, hx⟩, hks⟩ := HV.out k hkR
        have HOk := hid (HV.out k hkR)
        have HHm := hid (fun W => home_any g cap R (at' R k).key W hks (by omega) (by rw [HLen.out]; exact hb))
        rw [HLen.out] at HHm
        have hhm : homeL R (at' R k).key < r.length := by have := homeL_lt (r := R) (at' R k).key (by omega); rw [HLen.out] at this; exact this
        have hkj : k ≠ j := by rintro rfl; exact h0 HRj.out
        have HN := hid (ds_nx hk HJ.out hkj)
        have HW1 := hid (fun W => way_any g cap r.length _ k W hhm hk hb)
        have HW2 := hid (fun W => way_any g cap r.length i k W hi hk hb)
        have HX := hid (fun W => next_any g cap r.length k W hk hb)
        have t4 : (((at' R k).st : Int) == 0) = false := by simp; exact h0
        rw [hx, vl_x] at c2 c3 c4 c5
        by_cases hc : ds r.length (homeL R (at' R k).key) k < ds r.length i k
        · have HM2 : Hid (mendF (.agg #[.int .i64 0, .string ⟨#[]⟩, .int .i64 0, .pointer none]) f R i (nx r.length k) = mendL (.agg #[.int .i64 0, .string ⟨#[]⟩, .int .i64 0, .pointer none]) r i0) := by
            have := HMd.out
            unfold mendF at this
            rw [if_neg h0, HLen.out, if_pos hc] at this
            exact this
          have t5 : (ds r.length (homeL R (at' R k).key) k : Int) < (ds r.length i k : Int) := by omega
          clear h0 hc
          generalize homeL R (at' R k).key = hm at *
          generalize (at' R k).key = key at *
          generalize (at' R k).st = st at *
          go_wp2_with fail
          refine (HHm.out _).mono ?_
          rintro e w1 ⟨rfl, hw1⟩
          have hw1 := hw1.symm
          subst hw1
          go_wp2_with fail
          refine (HW1.out _).mono ?_
          rintro e w1 ⟨rfl, hw1⟩
          have hw1 := hw1.symm
          subst hw1
          go_wp2_with fail
          refine (HW2.out _).mono ?_
          rintro e w1 ⟨rfl, hw1⟩
          have hw1 := hw1.symm
          subst hw1
          go_wp2_with fail
          refine (HX.out _).mono ?_
          rintro e w1 ⟨rfl, hw1⟩
          have hw1 := hw1.symm
          subst hw1
          go_wp2_with fail
          go_roundg f
          case measure => omega
          case rel => exact ⟨i, nx r.length k, R, rfl, rfl, hi, nx_lt hk, HLen, HM2, by have h5 := HN.out; have h6 := HDs.out; show ds r.length (nx r.length k) j < f; omega, HIj, HRi, HRj, HV, HR, HF⟩
        · have HM2 : Hid (mendF (.agg #[.int .i64 0, .string ⟨#[]⟩, .int .i64 0, .pointer none]) f ((R.set i (at' R k)).set k (pz (.agg #[.int .i64 0, .string ⟨#[]⟩, .int .i64 0, .pointer none]))) k (nx r.length k) = mendL (.agg #[.int .i64 0, .string ⟨#[]⟩, .int .i64 0, .pointer none]) r i0) := by
            have := HMd.out
            unfold mendF at this
            rw [if_neg h0, HLen.out, if_neg hc] at this
            exact this
          have t5 : ¬ (ds r.length (homeL R (at' R k).key) k : Int) < (ds r.length i k : Int) := by omega
          have t6 : (0 : Int) ≤ (i : Int) := by omega
          have t7 : (i : Int) < (r.length : Int) := by omega
          have HKI : Hid (k ≠ i) := by rintro rfl; exact h0 HRi.out
          have HKJ := hid (show j ≠ k from fun e => hkj e.symm)
          have HP : Hid (at' R k = ⟨(at' R k).st, (at' R k).key, .agg #[.int .i64 x.v, .string x.k, .int .i64 x.s, .pointer x.p]⟩) := by
            show at' R k = _
            rw [← hx]
          clear h0 hc hkj hx
          generalize homeL R (at' R k).key = hm at *
          generalize hp : at' R k = p at c0 c1 t4 HHm HP HOk
          have HPP := hid hp
          clear hp
          obtain ⟨st, key, val⟩ := p
          dsimp only at c0 c1 t4 HHm HP
          go_wp2_with fail
          refine (HHm.out _).mono ?_
          rintro e w1 ⟨rfl, hw1⟩
          have hw1 := hw1.symm
          subst hw1
          go_wp2_with fail
          refine (HW1.out _).mono ?_
          rintro e w1 ⟨rfl, hw1⟩
          have hw1 := hw1.symm
          subst hw1
          go_wp2_with fail
          refine (HW2.out _).mono ?_
          rintro e w1 ⟨rfl, hw1⟩
          have hw1 := hw1.symm
          subst hw1
          have n00 : (k * 6 = i * 6) = False := by have := HKI.out; apply eq_false; omega
          have m00 : (i * 6 = k * 6) = False := by have := HKI.out; apply eq_false; omega
          have n01 : (k * 6 = i * 6 + 1) = False := by have := HKI.out; apply eq_false; omega
          have m10 : (i * 6 + 1 = k * 6) = False := by have := HKI.out; apply eq_false; omega
          have n02 : (k * 6 = i * 6 + 2) = False := by have := HKI.out; apply eq_false; omega
          have m20 : (i * 6 + 2 = k * 6) = False := by have := HKI.out; apply eq_false; omega
          have n03 : (k * 6 = i * 6 + 3) = False := by have := HKI.out; apply eq_false; omega
          have m30 : (i * 6 + 3 = k * 6) = False := by have := HKI.out; apply eq_false; omega
          have n04 : (k * 6 = i * 6 + 4) = False := by have := HKI.out; apply eq_false; omega
          have m40 : (i * 6 + 4 = k * 6) = False := by have := HKI.out; apply eq_false; omega
          have n05 : (k * 6 = i * 6 + 5) = False := by have := HKI.out; apply eq_false; omega
          have m50 : (i * 6 + 5 = k * 6) = False := by have := HKI.out; apply eq_false; omega
          have n10 : (k * 6 + 1 = i * 6) = False := by have := HKI.out; apply eq_false; omega
          have m01 : (i * 6 = k * 6 + 1) = False := by have := HKI.out; apply eq_false; omega
          have n11 : (k * 6 + 1 = i * 6 + 1) = False := by have := HKI.out; apply eq_false; omega
          have m11 : (i * 6 + 1 = k * 6 + 1) = False := by have := HKI.out; apply eq_false; omega
          have n12 : (k * 6 + 1 = i * 6 + 2) = False := by have := HKI.out; apply eq_false; omega
          have m21 : (i * 6 + 2 = k * 6 + 1) = False := by have := HKI.out; apply eq_false; omega
          have n13 : (k * 6 + 1 = i * 6 + 3) = False := by have := HKI.out; apply eq_false; omega
          have m31 : (i * 6 + 3 = k * 6 + 1) = False := by have := HKI.out; apply eq_false; omega
          have n14 : (k * 6 + 1 = i * 6 + 4) = False := by have := HKI.out; apply eq_false; omega
          have m41 : (i * 6 + 4 = k * 6 + 1) = False := by have := HKI.out; apply eq_false; omega
          have n15 : (k * 6 + 1 = i * 6 + 5) = False := by have := HKI.out; apply eq_false; omega
          have m51 : (i * 6 + 5 = k * 6 + 1) = False := by have := HKI.out; apply eq_false; omega
          have n20 : (k * 6 + 2 = i * 6) = False := by have := HKI.out; apply eq_false; omega
          have m02 : (i * 6 = k * 6 + 2) = False := by have := HKI.out; apply eq_false; omega
          have n21 : (k * 6 + 2 = i * 6 + 1) = False := by have := HKI.out; apply eq_false; omega
          have m12 : (i * 6 + 1 = k * 6 + 2) = False := by have := HKI.out; apply eq_false; omega
          have n22 : (k * 6 + 2 = i * 6 + 2) = False := by have := HKI.out; apply eq_false; omega
          have m22 : (i * 6 + 2 = k * 6 + 2) = False := by have := HKI.out; apply eq_false; omega
          have n23 : (k * 6 + 2 = i * 6 + 3) = False := by have := HKI.out; apply eq_false; omega
          have m32 : (i * 6 + 3 = k * 6 + 2) = False := by have := HKI.out; apply eq_false; omega
          have n24 : (k * 6 + 2 = i * 6 + 4) = False := by have := HKI.out; apply eq_false; omega
          have m42 : (i * 6 + 4 = k * 6 + 2) = False := by have := HKI.out; apply eq_false; omega
          have n25 : (k * 6 + 2 = i * 6 + 5) = False := by have := HKI.out; apply eq_false; omega
          have m52 : (i * 6 + 5 = k * 6 + 2) = False := by have := HKI.out; apply eq_false; omega
          have n30 : (k * 6 + 3 = i * 6) = False := by have := HKI.out; apply eq_false; omega
          have m03 : (i * 6 = k * 6 + 3) = False := by have := HKI.out; apply eq_false; omega
          have n31 : (k * 6 + 3 = i * 6 + 1) = False := by have := HKI.out; apply eq_false; omega
          have m13 : (i * 6 + 1 = k * 6 + 3) = False := by have := HKI.out; apply eq_false; omega
          have n32 : (k * 6 + 3 = i * 6 + 2) = False := by have := HKI.out; apply eq_false; omega
          have m23 : (i * 6 + 2 = k * 6 + 3) = False := by have := HKI.out; apply eq_false; omega
          have n33 : (k * 6 + 3 = i * 6 + 3) = False := by have := HKI.out; apply eq_false; omega
          have m33 : (i * 6 + 3 = k * 6 + 3) = False := by have := HKI.out; apply eq_false; omega
          have n34 : (k * 6 + 3 = i * 6 + 4) = False := by have := HKI.out; apply eq_false; omega
          have m43 : (i * 6 + 4 = k * 6 + 3) = False := by have := HKI.out; apply eq_false; omega
          have n35 : (k * 6 + 3 = i * 6 + 5) = False := by have := HKI.out; apply eq_false; omega
          have m53 : (i * 6 + 5 = k * 6 + 3) = False := by have := HKI.out; apply eq_false; omega
          have n40 : (k * 6 + 4 = i * 6) = False := by have := HKI.out; apply eq_false; omega
          have m04 : (i * 6 = k * 6 + 4) = False := by have := HKI.out; apply eq_false; omega
          have n41 : (k * 6 + 4 = i * 6 + 1) = False := by have := HKI.out; apply eq_false; omega
          have m14 : (i * 6 + 1 = k * 6 + 4) = False := by have := HKI.out; apply eq_false; omega
          have n42 : (k * 6 + 4 = i * 6 + 2) = False := by have := HKI.out; apply eq_false; omega
          have m24 : (i * 6 + 2 = k * 6 + 4) = False := by have := HKI.out; apply eq_false; omega
          have n43 : (k * 6 + 4 = i * 6 + 3) = False := by have := HKI.out; apply eq_false; omega
          have m34 : (i * 6 + 3 = k * 6 + 4) = False := by have := HKI.out; apply eq_false; omega
          have n44 : (k * 6 + 4 = i * 6 + 4) = False := by have := HKI.out; apply eq_false; omega
          have m44 : (i * 6 + 4 = k * 6 + 4) = False := by have := HKI.out; apply eq_false; omega
          have n45 : (k * 6 + 4 = i * 6 + 5) = False := by have := HKI.out; apply eq_false; omega
          have m54 : (i * 6 + 5 = k * 6 + 4) = False := by have := HKI.out; apply eq_false; omega
          have n50 : (k * 6 + 5 = i * 6) = False := by have := HKI.out; apply eq_false; omega
          have m05 : (i * 6 = k * 6 + 5) = False := by have := HKI.out; apply eq_false; omega
          have n51 : (k * 6 + 5 = i * 6 + 1) = False := by have := HKI.out; apply eq_false; omega
          have m15 : (i * 6 + 1 = k * 6 + 5) = False := by have := HKI.out; apply eq_false; omega
          have n52 : (k * 6 + 5 = i * 6 + 2) = False := by have := HKI.out; apply eq_false; omega
          have m25 : (i * 6 + 2 = k * 6 + 5) = False := by have := HKI.out; apply eq_false; omega
          have n53 : (k * 6 + 5 = i * 6 + 3) = False := by have := HKI.out; apply eq_false; omega
          have m35 : (i * 6 + 3 = k * 6 + 5) = False := by have := HKI.out; apply eq_false; omega
          have n54 : (k * 6 + 5 = i * 6 + 4) = False := by have := HKI.out; apply eq_false; omega
          have m45 : (i * 6 + 4 = k * 6 + 5) = False := by have := HKI.out; apply eq_false; omega
          have n55 : (k * 6 + 5 = i * 6 + 5) = False := by have := HKI.out; apply eq_false; omega
          have m55 : (i * 6 + 5 = k * 6 + 5) = False := by have := HKI.out; apply eq_false; omega
          obtain ⟨d0, d1, d2, d3, d4, d5⟩ := HR.out.cells i hiR
          have f0 := HR.out.free (i * 6)
          have f1 := HR.out.free (i * 6 + 1)
          have f2 := HR.out.free (i * 6 + 2)
          have f3 := HR.out.free (i * 6 + 3)
          have f4 := HR.out.free (i * 6 + 4)
          have f5 := HR.out.free (i * 6 + 5)
          have e0 := HR.out.free (k * 6)
          have e1 := HR.out.free (k * 6 + 1)
          have e2 := HR.out.free (k * 6 + 2)
          have e3 := HR.out.free (k * 6 + 3)
          have e4 := HR.out.free (k * 6 + 4)
          have e5 := HR.out.free (k * 6 + 5)
          go_wp2_with fail
          refine (HX.out _).mono ?_
          rintro e w1 ⟨rfl, hw1⟩
          have HPk : Hid (at' R k = ⟨st, key, .agg #[.int .i64 x.v, .string x.k, .int .i64 x.s, .pointer x.p]⟩) := HPP.out.trans HP.out
          have HA := hid (HR.out.set i hiR st key x)
          have HB : Hid (RowG 195 w1 g ((R.set i ⟨st, key, .agg #[.int .i64 x.v, .string x.k, .int .i64 x.s, .pointer x.p]⟩).set k (pz (.agg #[.int .i64 0, .string ⟨#[]⟩, .int .i64 0, .pointer none]))) rest) := by
            rw [hw1]
            exact HA.out.set k (by simpa using hkR) 0 none8 rz
          have HFB : Hid (Fr w w1 (fun b => b = g)) := by
            rw [hw1]
            exact set6_fr _ g (k * 6) 0 none8 rz (set6_fr wr g (i * 6) st key x HF.out (fun _ => rfl)) (fun _ => rfl)
          have HVB := hid ((HV.out.set i (at' R k) hiR (HV.out k hkR)).set k (pz (.agg #[.int .i64 0, .string ⟨#[]⟩, .int .i64 0, .pointer none])) (by simpa using hkR) okP_z)
          have HRB := hid (show (at' ((R.set i (at' R k)).set k (pz (.agg #[.int .i64 0, .string ⟨#[]⟩, .int .i64 0, .pointer none]))) j).st = 0 by
            rw [at_set _ _ _ _ (by simpa using hkR), if_neg (fun e => HKJ.out e.symm), at_set _ _ _ _ hiR, if_neg (fun e => HIj.out e.symm)]; exact HRj.out)
          have HRk := hid (show (at' ((R.set i (at' R k)).set k (pz (.agg #[.int .i64 0, .string ⟨#[]⟩, .int .i64 0, .pointer none]))) k).st = 0 by
            rw [at_set _ _ _ _ (by simpa using hkR), if_pos rfl]; rfl)
          have HLB := hid (show ((R.set i (at' R k)).set k (pz (.agg #[.int .i64 0, .string ⟨#[]⟩, .int .i64 0, .pointer none]))).length = r.length by simpa using HLen.out)
          rw [← HPk.out] at HB
          clear hw1 HA n00 m00 n01 m10 n02 m20 n03 m30 n04 m40 n05 m50 n10 m01 n11 m11 n12 m21 n13 m31 n14 m41 n15 m51 n20 m02 n21 m12 n22 m22 n23 m32 n24 m42 n25 m52 n30 m03 n31 m13 n32 m23 n33 m33 n34 m43 n35 m53 n40 m04 n41 m14 n42 m24 n43 m34 n44 m44 n45 m54 n50 m05 n51 m15 n52 m25 n53 m35 n54 m45 n55 m55 d0 d1 d2 d3 d4 d5 f0 f1 f2 f3 f4 f5 e0 e1 e2 e3 e4 e5 c0 c1 c2 c3 c4 c5
          go_wp2_with fail
          go_roundg f
          case measure => omega
          case rel => exact ⟨k, nx r.length k, (R.set i (at' R k)).set k (pz (.agg #[.int .i64 0, .string ⟨#[]⟩, .int .i64 0, .pointer none])), rfl, rfl, hk, nx_lt hk, HLB, HM2, by have h5 := HN.out; have h6 := HDs.out; show ds r.length (nx r.length k) j < f; omega, HKJ, HRk, HRB, HVB, HB, HFB⟩
end Go.Proofs.YtgbkihkefdoddaaGreatDoor.R
end

section
/- table: a table in memory; Len, Slots, Left, Place, find, Get: walks. -/
namespace Go.Proofs.YtgbkihkefdoddaaGreatDoor.R
open Go.RowKit

/-- A row at a block, or none. -/
def Ro (w : World) (L : List Pl) (v : Value) : Option Nat → Prop
  | none => L = [] ∧ v = .slice none 0 0
  | some g => ∃ cap rest, v = .slice (some ⟨g, 0, none⟩) L.length cap ∧ RowG 195 w g L rest ∧ L ≠ []
theorem Ro.shape {w : World} {L : List Pl} {v : Value} {b : Option Nat} (h : Ro w L v b) : ∃ ao cap, v = .slice ao L.length cap := by
  cases b with
  | none => obtain ⟨rfl, rfl⟩ := h; exact ⟨none, 0, rfl⟩
  | some g => obtain ⟨cap, rest, rfl, _, _⟩ := h; exact ⟨_, cap, rfl⟩
theorem Ro.fr {w w' : World} {S : Nat → Prop} {L : List Pl} {v : Value} {b : Option Nat} (h : Ro w L v b) (hf : Fr w w' S) (hS : ∀ g, b = some g → ¬ S g) : Ro w' L v b := by
  cases b with
  | none => exact h
  | some g => obtain ⟨cap, rest, rfl, hR, hne⟩ := h; exact ⟨cap, rest, rfl, hR.fr hf (hS g rfl), hne⟩
theorem Ro.lt {w : World} {L : List Pl} {v : Value} {g : Nat} (h : Ro w L v (some g)) : g < w.heap.size := by
  obtain ⟨cap, rest, rfl, hR, hne⟩ := h; exact hR.lt

/-- A table at block B, its rows at blocks gr and (perhaps) ge. -/
structure TbAt (w : World) (B gr : Nat) (ge : Option Nat) (T : Tb) : Prop where
  ex : ∃ rv ev, w.heap[B]? = some (.cells #[rv, ev, .int .i64 (T.moved : Int), .int .i64 (T.keys : Int)] 188 (0, 0)) ∧ Ro w T.row rv (some gr) ∧ Ro w T.elder ev ge
  ne : ge ≠ some gr
  inv : Inv0 T
  rok : Vok T.row
  eok : Vok T.elder
  len : T.row.length ≤ 1099511627776
/-- Its blocks. -/
def bl (B gr : Nat) (ge : Option Nat) (b : Nat) : Prop := b = B ∨ b = gr ∨ ge = some b

theorem cells4 {w : World} {N : Nat} {a b c d : Value} {e : TypeId} (h : w.heap[N]? = some (.cells #[a, b, c, d] e (0, 0))) : w.cell? ⟨N, 0, none⟩ = some a ∧ w.cell? ⟨N, 1, none⟩ = some b ∧ w.cell? ⟨N, 2, none⟩ = some c ∧ w.cell? ⟨N, 3, none⟩ = some d := by
  refine ⟨?_, ?_, ?_, ?_⟩ <;> simp [World.cell?, h]
theorem free4 {w : World} {N : Nat} {a b c d : Value} {e : TypeId} (h : w.heap[N]? = some (.cells #[a, b, c, d] e (0, 0))) (o : Nat) : w.frozen? ⟨N, o, none⟩ = false := by
  simp [World.frozen?, h]
theorem set40 {w : World} {N : Nat} {a b c d u : Value} {e : TypeId} (h : w.heap[N]? = some (.cells #[a, b, c, d] e (0, 0))) : (w.setCell ⟨N, 0, none⟩ u).heap[N]? = some (.cells #[u, b, c, d] e (0, 0)) := by rw [heap_setCell_same w N 0 _ _ u h]; rfl
theorem set41 {w : World} {N : Nat} {a b c d u : Value} {e : TypeId} (h : w.heap[N]? = some (.cells #[a, b, c, d] e (0, 0))) : (w.setCell ⟨N, 1, none⟩ u).heap[N]? = some (.cells #[a, u, c, d] e (0, 0)) := by rw [heap_setCell_same w N 1 _ _ u h]; rfl
theorem set42 {w : World} {N : Nat} {a b c d u : Value} {e : TypeId} (h : w.heap[N]? = some (.cells #[a, b, c, d] e (0, 0))) : (w.setCell ⟨N, 2, none⟩ u).heap[N]? = some (.cells #[a, b, u, d] e (0, 0)) := by rw [heap_setCell_same w N 2 _ _ u h]; rfl
theorem set43 {w : World} {N : Nat} {a b c d u : Value} {e : TypeId} (h : w.heap[N]? = some (.cells #[a, b, c, d] e (0, 0))) : (w.setCell ⟨N, 3, none⟩ u).heap[N]? = some (.cells #[a, b, c, u] e (0, 0)) := by rw [heap_setCell_same w N 3 _ _ u h]; rfl
theorem set_fr (w : World) (p : Addr) (u : Value) : Fr w (w.setCell p u) (fun b => b = p.block) := Fr.setCell (Fr.refl w (fun b => b = p.block)) (fun _ => rfl) u
theorem TbAt.lt {w : World} {B gr : Nat} {ge : Option Nat} {T : Tb} (h : TbAt w B gr ge T) : B < w.heap.size := by
  obtain ⟨rv, ev, hc, _⟩ := h.ex; exact lt_of_block hc
theorem TbAt.neB {w : World} {B gr : Nat} {ge : Option Nat} {T : Tb} (h : TbAt w B gr ge T) : gr ≠ B ∧ ge ≠ some B := by
  obtain ⟨rv, ev, hc, hr, he⟩ := h.ex
  have key : ∀ {g : Nat} {L : List Pl} {v : Value}, Ro w L v (some g) → g ≠ B := by
    rintro g L v ⟨cap, rest, _, hR, _⟩ rfl
    unfold RowG at hR
    rw [hc] at hR
    simp at hR
  exact ⟨key hr, fun e => by subst e; exact key he rfl⟩
theorem TbAt.fr {w w' : World} {S : Nat → Prop} {B gr : Nat} {ge : Option Nat} {T : Tb} (h : TbAt w B gr ge T) (hf : Fr w w' S) (hS : ∀ b, bl B gr ge b → ¬ S b) : TbAt w' B gr ge T := by
  obtain ⟨rv, ev, hc, hr, he⟩ := h.ex
  exact ⟨⟨rv, ev, by rw [hf.block B h.lt (hS B (Or.inl rfl))]; exact hc, hr.fr hf (fun g e => hS g (Or.inr (Or.inl (by cases e; rfl)))), he.fr hf (fun g e => hS g (Or.inr (Or.inr e)))⟩, h.ne, h.inv, h.rok, h.eok, h.len⟩
theorem TbAt.step {w w' : World} {B gr : Nat} {ge : Option Nat} {T : Tb} (h : TbAt w B gr ge T) (hf : Fr w w' (fun _ => False)) : TbAt w' B gr ge T := h.fr hf (fun _ _ h => h)
theorem TbAt.elen {w : World} {B gr : Nat} {ge : Option Nat} {T : Tb} (h : TbAt w B gr ge T) : T.elder.length ≤ 1099511627776 := by
  have := h.len
  rcases Classical.em (T.elder = []) with e | e
  · rw [e]; exact Nat.zero_le _
  · have := h.inv.half e; omega

theorem len_any {B gr : Nat} {ge : Option Nat} {T : Tb} (w : World) (h : TbAt w B gr ge T) :
    Calls Tryz.prog 229 #[.pointer (some ⟨B, 0, none⟩)] w fun e w' => e = .returned (.int .i64 (T.keys : Int)) ∧ w' = w := by
  have hlt := h.lt
  obtain ⟨rv, ev, hc, hr, he⟩ := h.ex
  obtain ⟨c0, c1, c2, c3⟩ := cells4 hc
  clear h hc hr he
  go_enter Tryz.func229, Tryz.ntmps229
  go_wp2_with fail
  go_ret
  exact ⟨rfl, rfl⟩
theorem left_any {B gr : Nat} {ge : Option Nat} {T : Tb} (w : World) (h : TbAt w B gr ge T) :
    Calls Tryz.prog 165 #[.pointer (some ⟨B, 0, none⟩)] w fun e w' => e = .returned (.int .i64 (T.left : Int)) ∧ Fr w w' (fun _ => False) := by
  have hlt := h.lt
  have hmv := h.inv.mv
  have hel := h.elen
  have HL := hid (show (T.elder.length : Int) - (T.moved : Int) = (T.left : Int) by unfold Tb.left; omega)
  obtain ⟨rv, ev, hc, hr, he⟩ := h.ex
  obtain ⟨c0, c1, c2, c3⟩ := cells4 hc
  obtain ⟨ao, cap, rfl⟩ := he.shape
  clear h hc hr he
  go_enter Tryz.func165, Tryz.ntmps165
  go_wp2_with fail
  go_quiet (fail)
  go_wp2_with fail
  go_ret
  exact ⟨congrArg (fun x => Ending.returned (.int .i64 x)) HL.out, by repeat (first | exact Fr.refl _ _ | apply Fr.drewN | apply Fr.drew)⟩

theorem lookR_any {L : List Pl} {v : Value} {b : Option Nat} (k : ByteArray) (w : World) (h : Ro w L v b) (hE : L ≠ [] → Emp L) (hk : k.size ≤ 9223372036854775807) (hb : L.length ≤ 1099511627776) :
    Calls Tryz.prog 167 #[v, .string k] w fun e w' => e = .returned (.tuple #[.int .i64 ((lookL L k).1 : Int), .bool (lookL L k).2]) ∧ w' = w := by
  cases b with
  | none =>
    obtain ⟨rfl, rfl⟩ := h
    exact look_nil k w
  | some g =>
    obtain ⟨cap, rest, rfl, hR, hne⟩ := h
    exact look_any k w hR (hE hne) hk hb

set_option maxHeartbeats 1000000 in
theorem place_any {B gr : Nat} {ge : Option Nat} {T : Tb} (k : ByteArray) (w : World) (h : TbAt w B gr ge T) (hk : k.size ≤ 9223372036854775807) :
    Calls Tryz.prog 144 #[.pointer (some ⟨B, 0, none⟩), .string k] w fun e w' => e = .returned (.tuple #[.int .i64 ((placeT T k).1 : Int), .bool (placeT T k).2.1, .bool (placeT T k).2.2]) ∧ w' = w := by
  have hlt := h.lt
  obtain ⟨rv, ev, hc, hr, he⟩ := h.ex
  obtain ⟨c0, c1, c2, c3⟩ := cells4 hc
  have HR := hid (lookR_any k w hr (fun _ => h.inv.row_emp) hk h.len)
  have HE := hid (lookR_any k w he h.inv.emp hk h.elen)
  clear h hc hr he
  cases hb1 : (lookL T.row k).2 with
  | true =>
    have HP : Hid (placeT T k = ((lookL T.row k).1, false, true)) := by
      unfold Hid placeT
      rw [if_pos hb1]
    rw [hb1] at HR
    rw [HP.out]
    clear hb1
    go_enter Tryz.func144, Tryz.ntmps144
    go_wp2_with fail
    refine HR.out.mono ?_
    rintro e w1 ⟨rfl, hw1⟩
    have hw1 := hw1.symm
    subst hw1
    go_wp2_with fail
    go_ret3
    exact ⟨rfl, rfl⟩
  | false =>
    rw [hb1] at HR
    cases hb2 : (lookL T.elder k).2 with
    | true =>
      have HP : Hid (placeT T k = ((lookL T.elder k).1, true, true)) := by
        unfold Hid placeT
        rw [if_neg (by rw [hb1]; simp), if_pos hb2]
      rw [hb2] at HE
      rw [HP.out]
      clear hb1 hb2
      go_enter Tryz.func144, Tryz.ntmps144
      go_wp2_with fail
      refine HR.out.mono ?_
      rintro e w1 ⟨rfl, hw1⟩
      have hw1 := hw1.symm
      subst hw1
      go_wp2_with fail
      refine HE.out.mono ?_
      rintro e w1 ⟨rfl, hw1⟩
      have hw1 := hw1.symm
      subst hw1
      go_wp2_with fail
      go_ret3
      exact ⟨rfl, rfl⟩
    | false =>
      have HP : Hid (placeT T k = (0, false, false)) := by
        unfold Hid placeT
        rw [if_neg (by rw [hb1]; simp), if_neg (by rw [hb2]; simp)]
      rw [hb2] at HE
      rw [HP.out]
      clear hb1 hb2
      go_enter Tryz.func144, Tryz.ntmps144
      go_wp2_with fail
      refine HR.out.mono ?_
      rintro e w1 ⟨rfl, hw1⟩
      have hw1 := hw1.symm
      subst hw1
      go_wp2_with fail
      refine HE.out.mono ?_
      rintro e w1 ⟨rfl, hw1⟩
      have hw1 := hw1.symm
      subst hw1
      go_wp2_with fail
      go_ret3
      exact ⟨rfl, rfl⟩

/-- Where find points. -/
def spot (T : Tb) (gr : Nat) (ge : Option Nat) (k : ByteArray) : Value :=
  if (placeT T k).2.2 then (if (placeT T k).2.1 then .pointer (some ⟨ge.getD 0, (placeT T k).1 * 6, none⟩) else .pointer (some ⟨gr, (placeT T k).1 * 6, none⟩)) else .pointer none

set_option maxHeartbeats 1000000 in
theorem find_any {B gr : Nat} {ge : Option Nat} {T : Tb} (k : ByteArray) (w : World) (h : TbAt w B gr ge T) (hk : k.size ≤ 9223372036854775807) :
    Calls Tryz.prog 136 #[.pointer (some ⟨B, 0, none⟩), .string k] w fun e w' => e = .returned (spot T gr ge k) ∧ w' = w := by
  have hlt := h.lt
  have HPl := hid (place_any k w h hk)
  have HT := hid h
  obtain ⟨rv, ev, hc, hr, he⟩ := h.ex
  obtain ⟨c0, c1, c2, c3⟩ := cells4 hc
  obtain ⟨capr, restr, rfl, hRr, _⟩ := hr
  unfold spot
  rcases place_cases h.inv k with ⟨i, hf, hp⟩ | ⟨i, hf, hp⟩ | ⟨hn, hp⟩
  · rw [hp] at HPl ⊢
    dsimp only at HPl
    have hi := hf.1
    have t0 : (0 : Int) ≤ (i : Int) := by omega
    have t1 : (i : Int) < (T.row.length : Int) := by omega
    have hgl := hRr.lt
    clear h hc he hRr hf hi hp
    go_enter Tryz.func136, Tryz.ntmps136
    go_wp2_with fail
    refine HPl.out.mono ?_
    rintro e w1 ⟨rfl, hw1⟩
    have hw1 := hw1.symm
    subst hw1
    go_wp2_with fail
    go_ret
    exact ⟨rfl, rfl⟩
  · rw [hp] at HPl ⊢
    dsimp only at HPl
    have hi := hf.1
    have hne : T.elder ≠ [] := by intro e; rw [e] at hi; simp at hi
    cases ge with
    | none => exact absurd he.1 hne
    | some g =>
      obtain ⟨cape, reste, rfl, hRe, _⟩ := he
      have t0 : (0 : Int) ≤ (i : Int) := by omega
      have t1 : (i : Int) < (T.elder.length : Int) := by omega
      have hgl := hRe.lt
      clear h hc hRr hRe hf hi hp hne
      go_enter Tryz.func136, Tryz.ntmps136
      go_wp2_with fail
      refine HPl.out.mono ?_
      rintro e w1 ⟨rfl, hw1⟩
      have hw1 := hw1.symm
      subst hw1
      go_wp2_with fail
      go_ret
      exact ⟨rfl, rfl⟩
  · rw [hp] at HPl ⊢
    dsimp only at HPl
    clear h hc he hRr hn hp
    go_enter Tryz.func136, Tryz.ntmps136
    go_wp2_with fail
    refine HPl.out.mono ?_
    rintro e w1 ⟨rfl, hw1⟩
    have hw1 := hw1.symm
    subst hw1
    go_wp2_with fail
    go_ret
    exact ⟨rfl, rfl⟩
end Go.Proofs.YtgbkihkefdoddaaGreatDoor.R
end

section
/- table: New, Get, moveOne, Move: walks. -/
namespace Go.Proofs.YtgbkihkefdoddaaGreatDoor.R
open Go.RowKit

set_option maxHeartbeats 1000000 in
theorem get_any {B gr : Nat} {ge : Option Nat} {T : Tb} (k : ByteArray) (w : World) (h : TbAt w B gr ge T) (hk : k.size ≤ 9223372036854775807) :
    Calls Tryz.prog 105 #[.pointer (some ⟨B, 0, none⟩), .string k] w fun e w' => e = .returned (.tuple #[(getT (.agg #[.int .i64 0, .string ⟨#[]⟩, .int .i64 0, .pointer none]) T k).1, .bool (getT (.agg #[.int .i64 0, .string ⟨#[]⟩, .int .i64 0, .pointer none]) T k).2]) ∧ Fr w w' (fun _ => False) := by
  have hlt := h.lt
  have HFn := hid (fun (W : World) (hf : Fr w W (fun _ => False)) => find_any k W (h.step hf) hk)
  obtain ⟨rv, ev, hc, hr, he⟩ := h.ex
  obtain ⟨capr, restr, rfl, hRr, _⟩ := hr
  unfold spot at HFn
  unfold getT
  rcases place_cases h.inv k with ⟨i, hf, hp⟩ | ⟨i, hf, hp⟩ | ⟨hn, hp⟩
  · rw [hp] at HFn ⊢
    simp only [if_true] at HFn ⊢
    obtain ⟨⟨x, hx⟩, _⟩ := h.rok i hf.1
    obtain ⟨c0, c1, c2, c3, c4, c5⟩ := hRr.cellx i hf.1 hx
    simp only [hx]
    have hgl := hRr.lt
    clear h hc he hRr hf hp c0 c1 hx
    go_enter Tryz.func105, Tryz.ntmps105
    go_wp2_with fail
    refine (HFn.out _ (alloc_fr _ _ _)).mono ?_
    rintro e w1 ⟨rfl, hw1⟩
    subst hw1
    go_wp2_with fail
    refine bodyPost_ret (v := (.tuple #[.agg #[.int .i64 x.v, .string x.k, .int .i64 x.s, .pointer x.p], .bool true])) (by simp [results, Tryz.results105, go_sem]) rfl ⟨rfl, by repeat (first | exact Fr.refl _ _ | apply Fr.alloc | (refine Fr.setCell ?_ (p := ⟨w.heap.size, _, none⟩) (fun h => absurd h (Nat.lt_irrefl _)) _))⟩
  · rw [hp] at HFn ⊢
    simp only [if_true] at HFn ⊢
    have hi := hf.1
    have hne : T.elder ≠ [] := by intro e; rw [e] at hi; simp at hi
    cases ge with
    | none => exact absurd he.1 hne
    | some g =>
      obtain ⟨cape, reste, rfl, hRe, _⟩ := he
      obtain ⟨⟨x, hx⟩, _⟩ := h.eok i hf.1
      obtain ⟨c0, c1, c2, c3, c4, c5⟩ := hRe.cellx i hf.1 hx
      simp only [hx]
      have hgl := hRe.lt
      simp only [Option.getD_some] at HFn
      clear h hc hRr hRe hf hp c0 c1 hx hi hne
      go_enter Tryz.func105, Tryz.ntmps105
      go_wp2_with fail
      refine (HFn.out _ (alloc_fr _ _ _)).mono ?_
      rintro e w1 ⟨rfl, hw1⟩
      subst hw1
      go_wp2_with fail
      refine bodyPost_ret (v := (.tuple #[.agg #[.int .i64 x.v, .string x.k, .int .i64 x.s, .pointer x.p], .bool true])) (by simp [results, Tryz.results105, go_sem]) rfl ⟨rfl, by repeat (first | exact Fr.refl _ _ | apply Fr.alloc | (refine Fr.setCell ?_ (p := ⟨w.heap.size, _, none⟩) (fun h => absurd h (Nat.lt_irrefl _)) _))⟩
  · rw [hp] at HFn ⊢
    simp only [Bool.false_eq_true, if_false] at HFn ⊢
    clear h hc he hRr hn hp
    go_enter Tryz.func105, Tryz.ntmps105
    go_wp2_with fail
    refine (HFn.out _ (alloc_fr _ _ _)).mono ?_
    rintro e w1 ⟨rfl, hw1⟩
    subst hw1
    go_wp2_with fail
    refine bodyPost_ret (v := (.tuple #[.agg #[.int .i64 0, .string ⟨#[]⟩, .int .i64 0, .pointer none], .bool false])) (by simp [results, Tryz.results105, go_sem]) rfl ⟨rfl, by repeat (first | exact Fr.refl _ _ | apply Fr.alloc | (refine Fr.setCell ?_ (p := ⟨w.heap.size, _, none⟩) (fun h => absurd h (Nat.lt_irrefl _)) _))⟩

/-- Amid moving a place: the elder row at g, the row at gr. -/
structure Mv (w W : World) (g gr : Nat) (E R : List Pl) (re rr : List Value) : Prop where
  fr : Fr w W (fun b => b = g ∨ b = gr)
  e : RowG 195 W g E re
  r : RowG 195 W gr R rr
theorem Mv.drew {w W : World} {g gr : Nat} {E R : List Pl} {re rr : List Value} (h : Mv w W g gr E R re rr) : Mv w W.drew g gr E R re rr := ⟨h.fr.drew, h.e, h.r⟩

theorem Mv.drewN {w W : World} {g gr : Nat} {E R : List Pl} {re rr : List Value} (h : Mv w W g gr E R re rr) (n : Nat) : Mv w (W.drewN n) g gr E R re rr := ⟨h.fr.drewN n, h.e, h.r⟩

theorem Mv.give {w W W' : World} {g gr : Nat} {E E' R : List Pl} {re rr : List Value} (hne : g ≠ gr) (h : Mv w W g gr E R re rr) (h1 : RowG 195 W' g E' re) (hf : Fr W W' (fun b => b = g)) : Mv w W' g gr E' R re rr :=
  ⟨h.fr.trans2 hf (fun _ _ h => Or.inl h), h1, h.r.fr hf (fun e => hne e.symm)⟩
theorem Mv.lay {w W W' : World} {g gr : Nat} {E R R' : List Pl} {re rr : List Value} (hne : g ≠ gr) (h : Mv w W g gr E R re rr) (h1 : RowG 195 W' gr R' rr) (hf : Fr W W' (fun b => b = gr)) : Mv w W' g gr E R' re rr :=
  ⟨h.fr.trans2 hf (fun _ _ h => Or.inr h), h.e.fr hf hne, h1⟩
theorem layP_vok {r : List Pl} {k : ByteArray} {v : Value} (h : Vok r) (he : Emp r) (hp : okP ⟨1, k, v⟩) : Vok (layP r k v) := h.set _ _ (lookL_spec k he).1 hp

set_option maxHeartbeats 2000000 in
set_option maxRecDepth 100000 in
theorem one_any {B gr g : Nat} {T : Tb} (w : World) (h : TbAt w B gr (some g) T) (hm : T.moved < T.elder.length) :
    Calls Tryz.prog 166 #[.pointer (some ⟨B, 0, none⟩)] w fun e w' => e = .returned (.tuple #[]) ∧ TbAt w' B gr (some g) (one (.agg #[.int .i64 0, .string ⟨#[]⟩, .int .i64 0, .pointer none]) T) ∧ Fr w w' (bl B gr (some g)) := by
  have HOI := hid (one_inv (.agg #[.int .i64 0, .string ⟨#[]⟩, .int .i64 0, .pointer none]) h.inv hm)
  have hlt := h.lt
  have hnb := h.neB
  have HT := hid h
  have hlen := h.len
  have hel := h.elen
  have hne : g ≠ gr := fun e => h.ne (by rw [e])
  obtain ⟨rv, ev, hc, hr, he⟩ := h.ex
  obtain ⟨c0, c1, c2, c3⟩ := cells4 hc
  have hz := free4 hc 2
  obtain ⟨capr, restr, rfl, hRr, hrne⟩ := hr
  obtain ⟨cape, reste, rfl, hRe, hene⟩ := he
  obtain ⟨d0, _⟩ := hRe.cells T.moved hm
  have hgl := hRe.lt
  have hgrl := hRr.lt
  have t0 : (0 : Int) ≤ (T.moved : Int) := by omega
  have t1 : (T.moved : Int) < (T.elder.length : Int) := by omega
  have HNe := hid hne
  have HgB := hid (show g ≠ B from fun e => hnb.2 (by rw [e]))
  have HgrB := hid hnb.1
  have HCell := hid hc
  have HCm := hid (show w.cell? ⟨g, T.moved * 6, none⟩ = some (.int .u8 ((at' T.elder T.moved).st : Int)) from d0)
  by_cases h1 : (at' T.elder T.moved).st = 1
  · obtain ⟨⟨x, hx⟩, hks⟩ := h.eok T.moved hm
    have HGv := hid (fun (W : World) (hM : Mv w W g gr T.elder T.row reste restr) => give_any (cap := cape) T.moved W hM.e hm h.eok hel)
    have HLy := hid (fun (W : World) (hM : Mv w W g gr (T.elder.set T.moved (pg (.agg #[.int .i64 0, .string ⟨#[]⟩, .int .i64 0, .pointer none]))) T.row reste restr) => lay_any (cap := capr) (at' T.elder T.moved).key x W hM.r h.inv.row_emp hks hlen)
    have HF := hid (Mv.mk (Fr.refl w _) hRe hRr)
    have HK := hid (fun (W' : World) (hf : Fr w W' (fun b => b = g ∨ b = gr)) => (show W'.cell? ⟨B, 0, none⟩ = some (.slice (some ⟨gr, 0, none⟩) T.row.length capr) ∧ W'.cell? ⟨B, 1, none⟩ = some (.slice (some ⟨g, 0, none⟩) T.elder.length cape) ∧ W'.cell? ⟨B, 2, none⟩ = some (.int .i64 (T.moved : Int)) from by
      have hb := hf.block B hlt (fun e => by rcases e with e | e; exact HgB.out e.symm; exact HgrB.out e.symm)
      have := cells4 (hb.trans hc)
      exact ⟨this.1, this.2.1, this.2.2.1⟩))
    have HO : Hid (one (.agg #[.int .i64 0, .string ⟨#[]⟩, .int .i64 0, .pointer none]) T = ⟨layP T.row (at' T.elder T.moved).key (.agg #[.int .i64 x.v, .string x.k, .int .i64 x.s, .pointer x.p]), T.elder.set T.moved (pg (.agg #[.int .i64 0, .string ⟨#[]⟩, .int .i64 0, .pointer none])), T.moved + 1, T.keys⟩) := by
      unfold Hid one
      rw [if_pos h1, hx]
    have HV1 := hid (layP_vok h.rok h.inv.row_emp (k := (at' T.elder T.moved).key) (v := .agg #[.int .i64 x.v, .string x.k, .int .i64 x.s, .pointer x.p]) ⟨⟨x, rfl⟩, hks⟩)
    have HV2 := hid (h.eok.set T.moved (pg (.agg #[.int .i64 0, .string ⟨#[]⟩, .int .i64 0, .pointer none])) hm okP_g)
    rw [h1] at d0
    rw [hx, vl_x] at HGv
    generalize hkk : (at' T.elder T.moved).key = key at *
    clear h hc hRr hRe hx h1 hks hkk c3
    go_enter Tryz.func166, Tryz.ntmps166
    go_wp2_with fail
    go_quiet (fail)
    go_wp2_with fail
    first
      | go_region_held3 (fun W' => Hid (Fr w W' (fun b => b = g ∨ b = gr)) ∧ W'.cell? ⟨B, 0, none⟩ = some (.slice (some ⟨gr, 0, none⟩) T.row.length capr) ∧ W'.cell? ⟨B, 1, none⟩ = some (.slice (some ⟨g, 0, none⟩) T.elder.length cape) ∧ W'.cell? ⟨B, 2, none⟩ = some (.int .i64 (T.moved : Int)))
          ((refine (fun h => ⟨h, (HK.out _ h).1, (HK.out _ h).2.1, (HK.out _ h).2.2⟩ : Fr w _ (fun b => b = g ∨ b = gr) → _) ?_; repeat (first | exact HF.out.fr | apply Fr.drewN | apply Fr.drew)))
          (first
            | (go_at_call 145; refine (HGv.out _ (by repeat (first | exact HF.out | apply Mv.drewN | apply Mv.drew))).mono ?_; rintro e w1 ⟨rfl, hR1, hf1⟩; have HF := hid (Mv.give HNe.out (by repeat (first | exact HF.out | apply Mv.drewN | apply Mv.drew)) hR1 hf1); clear hR1 hf1)
            | (go_at_call 152; refine (HLy.out _ (by repeat (first | exact HF.out | apply Mv.drewN | apply Mv.drew))).mono ?_; rintro e w2 ⟨rfl, hR2, hf2⟩; have HF := hid (Mv.lay HNe.out (by repeat (first | exact HF.out | apply Mv.drewN | apply Mv.drew)) hR2 hf2); clear hR2 hf2))
      | fail
    have HB2 := hid ((HF.out.fr.block B hlt (fun e => by rcases e with e | e; exact HgB.out e.symm; exact HgrB.out e.symm)).trans HCell.out)
    obtain ⟨c0, c1, c2, c3⟩ := cells4 HB2.out
    have hz2 := free4 HB2.out 2
    have hlt2 := lt_of_block HB2.out
    clear c0 c1 c3
    go_wp2_with fail
    go_end0
    rw [HO.out] at HOI ⊢
    have hS := set_fr w2 ⟨B, 2, none⟩ (.int .i64 ((T.moved : Int) + 1))
    refine ⟨rfl, ⟨⟨_, _, set42 HB2.out, ⟨capr, restr, by rw [layP_len], HF.out.r.fr hS HgrB.out, ?_⟩, ⟨cape, reste, by rw [List.length_set], HF.out.e.fr hS HgB.out, ?_⟩⟩, fun e => HNe.out (by cases e; rfl), HOI.out.1, HV1.out, HV2.out, by rw [layP_len]; exact hlen⟩, ?_⟩
    · intro e
      apply hrne
      apply List.eq_nil_of_length_eq_zero
      rw [← layP_len T.row key (.agg #[.int .i64 x.v, .string x.k, .int .i64 x.s, .pointer x.p])]
      simp only at e
      rw [e]; rfl
    · intro e
      apply hene
      apply List.eq_nil_of_length_eq_zero
      simp only at e
      have h3 : (T.elder.set T.moved (pg (.agg #[.int .i64 0, .string ⟨#[]⟩, .int .i64 0, .pointer none]))).length = T.elder.length := by simp
      rw [← h3, e]
      rfl
    · exact (HF.out.fr.mono (fun b _ e => by rcases e with e | e; exact Or.inr (Or.inr (by rw [e])); exact Or.inr (Or.inl e))).trans2 hS (fun b _ e => Or.inl e)
  · have HO : Hid (one (.agg #[.int .i64 0, .string ⟨#[]⟩, .int .i64 0, .pointer none]) T = ⟨T.row, T.elder, T.moved + 1, T.keys⟩) := by
      unfold Hid one
      rw [if_neg h1]
    have t2 : (((at' T.elder T.moved).st : Int) == 1) = false := by simp; omega
    have HRr := hid hRr
    have HRe := hid hRe
    have HVr := hid h.rok
    have HVe := hid h.eok
    clear h hc hRr hRe h1 c3
    generalize (at' T.elder T.moved).st = st at *
    go_enter Tryz.func166, Tryz.ntmps166
    go_wp2_with fail
    go_quiet (fail)
    go_wp2_with fail
    go_end0
    rw [HO.out] at HOI ⊢
    have hS := ((Fr.refl w (fun b => b = B)).drewN nq).setCell (p := ⟨B, 2, none⟩) (fun _ => rfl) (.int .i64 ((T.moved : Int) + 1))
    refine ⟨rfl, ⟨⟨_, _, set42 HCell.out, ⟨capr, restr, rfl, HRr.out.fr hS HgrB.out, hrne⟩, ⟨cape, reste, rfl, HRe.out.fr hS HgB.out, hene⟩⟩, fun e => HNe.out (by cases e; rfl), HOI.out.1, HVr.out, HVe.out, hlen⟩, ?_⟩
    exact hS.mono (fun b _ e => Or.inl e)
end Go.Proofs.YtgbkihkefdoddaaGreatDoor.R
end

section
/- table: Move, New, grow: walks. -/
namespace Go.Proofs.YtgbkihkefdoddaaGreatDoor.R
open Go.RowKit

theorem ones_succ (z : Value) : ∀ (n : Nat) (T : Tb), ones z (n + 1) T = one z (ones z n T)
  | 0, _ => rfl
  | n + 1, T => by
    show ones z (n + 1) (one z T) = one z (ones z n (one z T))
    exact ones_succ z n (one z T)

theorem one_any' {B gr : Nat} {ge : Option Nat} {T : Tb} (w : World) (h : TbAt w B gr ge T) (hm : T.moved < T.elder.length) :
    Calls Tryz.prog 166 #[.pointer (some ⟨B, 0, none⟩)] w fun e w' => e = .returned (.tuple #[]) ∧ TbAt w' B gr ge (one (.agg #[.int .i64 0, .string ⟨#[]⟩, .int .i64 0, .pointer none]) T) ∧ Fr w w' (bl B gr ge) := by
  cases ge with
  | none =>
    obtain ⟨rv, ev, hc, hr, he⟩ := h.ex
    rw [he.1] at hm
    simp at hm
  | some g => exact one_any w h hm

set_option maxHeartbeats 2000000 in
set_option maxRecDepth 100000 in
theorem move_any {B gr : Nat} {ge : Option Nat} {T : Tb} (n : Int) (w : World) (h : TbAt w B gr ge T) :
    Calls Tryz.prog 143 #[.pointer (some ⟨B, 0, none⟩), .int .i64 n] w fun e w' => e = .returned (.int .i64 ((moveT (.agg #[.int .i64 0, .string ⟨#[]⟩, .int .i64 0, .pointer none]) T n).left : Int)) ∧ (∃ ge', TbAt w' B gr ge' (moveT (.agg #[.int .i64 0, .string ⟨#[]⟩, .int .i64 0, .pointer none]) T n) ∧ (ge' = ge ∨ ge' = none)) ∧ Fr w w' (bl B gr ge) := by
  have hlt := h.lt
  have HLf := hid (left_any w h)
  have HT := hid h
  have hel : T.left ≤ 1099511627776 := by have := h.elen; unfold Tb.left; omega
  have hmin : min n (T.left : Int) ≤ (T.left : Int) := by omega
  have HM : Hid (moveT (.agg #[.int .i64 0, .string ⟨#[]⟩, .int .i64 0, .pointer none]) T n = shut (ones (.agg #[.int .i64 0, .string ⟨#[]⟩, .int .i64 0, .pointer none]) (min n (T.left : Int)).toNat T)) := rfl
  have HMi := hid (move_inv (.agg #[.int .i64 0, .string ⟨#[]⟩, .int .i64 0, .pointer none]) h.inv n)
  have hle : (min n (T.left : Int)).toNat ≤ T.left := by omega
  clear h
  go_enter Tryz.func143, Tryz.ntmps143
  go_wp2_with fail
  refine HLf.out.mono ?_
  rintro e w1 ⟨rfl, hf1⟩
  have HT1 := hid (HT.out.step hf1)
  have HF1 := hid (hf1.mono (T := bl B gr ge) (fun _ _ h => h.elim))
  clear hf1 HLf
  generalize hq : min n (T.left : Int) = q at *
  have HQ := hid hq
  clear hq
  have HOs := hid (fun (i : Nat) (hi : i ≤ T.left) => ones_inv (.agg #[.int .i64 0, .string ⟨#[]⟩, .int .i64 0, .pointer none]) i HT.out.inv hi)
  go_wp2_with fail
  all_goals
    go_loopg [9] q.toNat (fun gk s9 wx => ∃ i : Nat, s9 = .int .i64 (i : Int) ∧ Hid (i + gk = q.toNat) ∧ Hid (TbAt wx B gr ge (ones (.agg #[.int .i64 0, .string ⟨#[]⟩, .int .i64 0, .pointer none]) i T)) ∧ Hid (Fr w wx (bl B gr ge)))
    case atStart => exact ⟨0, rfl, by show 0 + q.toNat = _; omega, HT1, HF1⟩
    case round =>
      obtain ⟨i, rfl, HG, HTi, HFi⟩ := hrel
      have hltr := HTi.out.lt
      cases gk with
      | zero =>
        have hi := HG.out
        have hqn := HQ.out
        first
          | have t1 : ¬ (i : Int) < n := by omega
          | have t1 : ¬ (i : Int) < (T.left : Int) := by omega
        have HE := hid (show i = q.toNat by omega)
        clear hi hqn
        have HLi := hid (left_any wr HTi.out)
        go_wp2_with fail
        refine HLi.out.mono ?_
        rintro e w2 ⟨rfl, hf2⟩
        have HT2 := hid (HTi.out.step hf2)
        have HF2 := hid (HFi.out.trans2 hf2 (fun _ _ h => h.elim))
        clear hf2 HLi
        by_cases hz : (ones (.agg #[.int .i64 0, .string ⟨#[]⟩, .int .i64 0, .pointer none]) i T).left = 0
        · rw [hz]
          have HMo : Hid (moveT (.agg #[.int .i64 0, .string ⟨#[]⟩, .int .i64 0, .pointer none]) T n = ⟨(ones (.agg #[.int .i64 0, .string ⟨#[]⟩, .int .i64 0, .pointer none]) i T).row, [], 0, (ones (.agg #[.int .i64 0, .string ⟨#[]⟩, .int .i64 0, .pointer none]) i T).keys⟩) := by
            have := HM.out
            rw [← HE.out] at this
            unfold shut at this
            rw [if_pos hz] at this
            exact this
          clear hz
          have hlt2 := HT2.out.lt
          obtain ⟨rv, ev, hc, hr, he⟩ := HT2.out.ex
          obtain ⟨c0, c1, c2, c3⟩ := cells4 hc
          have f1 := free4 hc 1
          have f2 := free4 hc 2
          have HC := hid hc
          have HR := hid hr
          clear hc hr he
          go_wp2_with fail
          have HTn : Hid (∀ W, W = (w2.setCell ⟨B, 1, none⟩ (.slice none 0 0)).setCell ⟨B, 2, none⟩ (.int .i64 0) → TbAt W B gr none (moveT (.agg #[.int .i64 0, .string ⟨#[]⟩, .int .i64 0, .pointer none]) T n)) := by
            rintro W rfl
            rw [HMo.out]
            have hS : Fr w2 ((w2.setCell ⟨B, 1, none⟩ (.slice none 0 0)).setCell ⟨B, 2, none⟩ (.int .i64 0)) (fun b => b = B) := ((Fr.refl w2 (fun b => b = B)).setCell (p := ⟨B, 1, none⟩) (fun _ => rfl) _).setCell (p := ⟨B, 2, none⟩) (fun _ => rfl) _
            have hI := HMi.out.1.i0
            rw [HMo.out] at hI
            exact ⟨⟨rv, _, set42 (set41 HC.out), HR.out.fr hS (fun g e => by cases e; exact HT2.out.neB.1), rfl, rfl⟩, by simp, hI, HT2.out.rok, fun i hi => by simp at hi, HT2.out.len⟩
          have HTw := hid (HTn.out _ rfl)
          refine (left_any _ HTw.out).mono ?_
          rintro e w3 ⟨rfl, hf3⟩
          have HT3 := hid (HTw.out.step hf3)
          have HF3 := hid (((HF2.out.setCell (p := ⟨B, 1, none⟩) (fun _ => Or.inl rfl) (.slice none 0 0)).setCell (p := ⟨B, 2, none⟩) (fun _ => Or.inl rfl) (.int .i64 0)).trans2 hf3 (fun _ _ h => h.elim))
          clear hf3
          go_wp2_with fail
          go_ret
          exact ⟨rfl, ⟨none, HT3.out, Or.inr rfl⟩, HF3.out⟩
        · have HMo : Hid (moveT (.agg #[.int .i64 0, .string ⟨#[]⟩, .int .i64 0, .pointer none]) T n = ones (.agg #[.int .i64 0, .string ⟨#[]⟩, .int .i64 0, .pointer none]) i T) := by
            have := HM.out
            rw [← HE.out] at this
            unfold shut at this
            rw [if_neg hz] at this
            exact this
          have t2 : (((ones (.agg #[.int .i64 0, .string ⟨#[]⟩, .int .i64 0, .pointer none]) i T).left : Int) == 0) = false := by simp; exact hz
          clear hz
          have HL2 := hid (left_any w2 HT2.out)
          go_wp2_with fail
          refine HL2.out.mono ?_
          rintro e w3 ⟨rfl, hf3⟩
          have HT3 := hid (HT2.out.step hf3)
          have HF3 := hid (HF2.out.trans2 hf3 (fun _ _ h => h.elim))
          clear hf3
          go_wp2_with fail
          go_ret
          rw [HMo.out]
          exact ⟨rfl, ⟨ge, HT3.out, Or.inl rfl⟩, HF3.out⟩
      | succ f =>
        have hi := HG.out
        have hqn := HQ.out
        first
          | (have t1 : (i : Int) < n := by omega)
          | (have t1 : (i : Int) < (T.left : Int) := by omega)
        have t3 : (i : Int) < (T.left : Int) := by omega
        have hm : (ones (.agg #[.int .i64 0, .string ⟨#[]⟩, .int .i64 0, .pointer none]) i T).moved < (ones (.agg #[.int .i64 0, .string ⟨#[]⟩, .int .i64 0, .pointer none]) i T).elder.length := by
          obtain ⟨_, _, a3, a4, _, _⟩ := HOs.out i (by omega)
          rw [a3, a4]
          have : i < T.left := by omega
          unfold Tb.left at this
          omega
        have HOn := hid (one_any' wr HTi.out hm)
        have HSu := hid (ones_succ (.agg #[.int .i64 0, .string ⟨#[]⟩, .int .i64 0, .pointer none]) i T)
        clear hi hqn hm
        go_wp2_with fail
        refine HOn.out.mono ?_
        rintro e w2 ⟨rfl, hT2, hf2⟩
        rw [← HSu.out] at hT2
        have HT2 := hid hT2
        have HF2 := hid (HFi.out.trans hf2)
        clear hT2 hf2
        go_wp2_with fail
        go_roundg f
        case measure => omega
        case rel => exact ⟨i + 1, by go_num, by have := HG.out; show i + 1 + f = q.toNat; omega, HT2, HF2⟩
end Go.Proofs.YtgbkihkefdoddaaGreatDoor.R
end

section
/- table: New, grow, Put: walks. -/
namespace Go.Proofs.YtgbkihkefdoddaaGreatDoor.R
open Go.RowKit

theorem Tryz.info_place : (Tryz.prog.info? 195).map (fun i => (i.zero, i.size, i.bytes)) = some (some (.agg #[.int .u8 0, .string ⟨#[]⟩, .int .i64 0, .string ⟨#[]⟩, .int .i64 0, .pointer none]), 6, 64) := by kernel_rfl
theorem make_any (n : Nat) (hn : n ≤ 1099511627776) (W : World) : (Instr.makeSlice 186 (.int .i64 (n : Int)) (.int .i64 (n : Int))).run Tryz.prog W = .ok (.slice (some ⟨W.heap.size, 0, none⟩) n n) (W.alloc (.cells (pc (List.replicate n (pz (.agg #[.int .i64 0, .string ⟨#[]⟩, .int .i64 0, .pointer none])))).toArray 195)) := by
  obtain ⟨i0, hi, hz0, hz1, hz2⟩ := info_parts Tryz.info_place
  have hr := run_make (P := Tryz.prog) W 186 195 i0 _ Tryz.underlying186 hi hz0 .i64 .i64 n n (by omega) (Int.le_refl _) (by rw [hz2]; omega) (by omega)
  rw [hr, Int.toNat_natCast, hz1]
  have h3 := pc_rep n
  unfold none8 at h3
  rw [← h3]
  rfl

theorem make_arr (n : Nat) (hn : n ≤ 1099511627776) : ∃ arr : Array Value, Hid (arr = (pc (List.replicate n (pz (.agg #[.int .i64 0, .string ⟨#[]⟩, .int .i64 0, .pointer none])))).toArray) ∧ ∀ W : World, (Instr.makeSlice 186 (.int .i64 (n : Int)) (.int .i64 (n : Int))).run Tryz.prog W = .ok (.slice (some ⟨W.heap.size, 0, none⟩) n n) (W.alloc (.cells arr 195)) := ⟨_, rfl, make_any n hn⟩
theorem arr_row {n : Nat} {arr : Array Value} (h : Hid (arr = (pc (List.replicate n (pz (.agg #[.int .i64 0, .string ⟨#[]⟩, .int .i64 0, .pointer none])))).toArray)) (w : World) : RowG 195 (w.alloc (.cells arr 195)) w.heap.size (List.replicate n (pz (.agg #[.int .i64 0, .string ⟨#[]⟩, .int .i64 0, .pointer none]))) [] := by
  unfold RowG
  rw [heap_last _ _ _ rfl, h.out, List.append_nil]

theorem new_any (w : World) :
    Calls Tryz.prog 104 #[] w fun e w' => e = .returned (.pointer (some ⟨w.heap.size + 1, 0, none⟩)) ∧ TbAt w' (w.heap.size + 1) w.heap.size none (newT (.agg #[.int .i64 0, .string ⟨#[]⟩, .int .i64 0, .pointer none])) ∧ Fr w w' (fun _ => False) ∧ w'.heap.size = w.heap.size + 2 := by
  obtain ⟨arr, HA, hmk⟩ := make_arr 8 (by omega)
  have hm8 : (Instr.makeSlice 186 (.int .i64 8) (.int .i64 8)).run Tryz.prog w = .ok (.slice (some ⟨w.heap.size, 0, none⟩) 8 8) (w.alloc (.cells arr 195)) := hmk w
  clear hmk
  go_enter Tryz.func104, Tryz.ntmps104
  go_wp2_with fail
  go_ret
  have hR := arr_row HA w
  refine ⟨rfl, ⟨⟨_, _, heap_last _ _ _ (by simp), ⟨8, [], rfl, hR.fr (alloc_fr _ _ (fun _ => False)) (fun h => h), by simp [newT]⟩, rfl, rfl⟩, by simp, (new_inv (.agg #[.int .i64 0, .string ⟨#[]⟩, .int .i64 0, .pointer none])).i0, Vok.rep 8, fun i hi => by simp [newT] at hi, by simp [newT]⟩, (alloc_fr w _ _).alloc _, by simp⟩

set_option maxHeartbeats 1000000 in
set_option maxRecDepth 100000 in
theorem grow_any {B gr : Nat} {ge : Option Nat} {T : Tb} (w : World) (h : TbAt w B gr ge T) (hI : Inv T) (hlen : 2 * T.row.length ≤ 1099511627776) :
    Calls Tryz.prog 151 #[.pointer (some ⟨B, 0, none⟩)] w fun e w' => e = .returned (.tuple #[]) ∧ (∃ gn, TbAt w' B gn (some gr) (growT (.agg #[.int .i64 0, .string ⟨#[]⟩, .int .i64 0, .pointer none]) T) ∧ w.heap.size ≤ gn) ∧ Fr w w' (bl B gr ge) := by
  have hlt := h.lt
  have HLf := hid (left_any w h)
  have HT := hid h
  have HMi := hid (move_inv (.agg #[.int .i64 0, .string ⟨#[]⟩, .int .i64 0, .pointer none]) h.inv (T.left : Int))
  have HGi := hid (grow_inv (.agg #[.int .i64 0, .string ⟨#[]⟩, .int .i64 0, .pointer none]) hI)
  have HG : Hid (growT (.agg #[.int .i64 0, .string ⟨#[]⟩, .int .i64 0, .pointer none]) T = ⟨List.replicate (2 * (moveT (.agg #[.int .i64 0, .string ⟨#[]⟩, .int .i64 0, .pointer none]) T (T.left : Int)).row.length) (pz (.agg #[.int .i64 0, .string ⟨#[]⟩, .int .i64 0, .pointer none])), (moveT (.agg #[.int .i64 0, .string ⟨#[]⟩, .int .i64 0, .pointer none]) T (T.left : Int)).row, 0, (moveT (.agg #[.int .i64 0, .string ⟨#[]⟩, .int .i64 0, .pointer none]) T (T.left : Int)).keys⟩) := rfl
  clear h hI
  go_enter Tryz.func151, Tryz.ntmps151
  go_wp2_with fail
  refine HLf.out.mono ?_
  rintro e w1 ⟨rfl, hf1⟩
  have HT1 := hid (HT.out.step hf1)
  have HF1 := hid (hf1.mono (T := bl B gr ge) (fun _ _ h => h.elim))
  clear hf1 HLf
  have HMv := hid (move_any (T.left : Int) w1 HT1.out)
  go_wp2_with fail
  refine HMv.out.mono ?_
  rintro e w2 ⟨rfl, ⟨ge', hT2, hge⟩, hf2⟩
  have HT2 := hid hT2
  have HF2 := hid (HF1.out.trans hf2)
  clear HMv hf2 HT1 HF1 hge
  have hml := HMi.out.2.2.2.1
  generalize hU : moveT (.agg #[.int .i64 0, .string ⟨#[]⟩, .int .i64 0, .pointer none]) T (T.left : Int) = U at *
  have HU := hid hU
  clear hU
  have hlt2 := hT2.lt
  obtain ⟨rv, ev, hc, hr, he⟩ := hT2.ex
  obtain ⟨c0, c1, c2, c3⟩ := cells4 hc
  have f0 := free4 hc 0
  have f1 := free4 hc 1
  have HC := hid hc
  have HR := hid hr
  have HsB := hid hT2.neB.1
  obtain ⟨capr, restr, rfl, hRr, hrne⟩ := hr
  have hgl := hRr.lt
  rw [hml] at c0
  obtain ⟨arr, HA, hmk⟩ := make_arr (2 * T.row.length) hlen
  have hm2 : ∀ W : World, (Instr.makeSlice 186 (.int .i64 (2 * (T.row.length : Int))) (.int .i64 (2 * (T.row.length : Int)))).run Tryz.prog W = .ok (.slice (some ⟨W.heap.size, 0, none⟩) (2 * T.row.length) (2 * T.row.length)) (W.alloc (.cells arr 195)) := fun W => hmk W
  have HML := hid hml
  have HRr := hid hRr
  clear hmk hc he hT2 hRr hml c2 c3
  go_wp2_with fail
  go_end0
  have hm0 : U.moved = 0 := by
    have h0 : U.left = 0 := by rw [HMi.out.2.2.1]; omega
    have h1 := HMi.out.1.i0.mv
    rw [HMi.out.1.shut h0] at h1
    simpa using h1
  have hS : Fr w2 ((w2.setCell ⟨B, 1, none⟩ (.slice (some ⟨gr, 0, none⟩) T.row.length capr)).setCell ⟨B, 0, none⟩ (.slice (some ⟨w2.heap.size, 0, none⟩) (2 * T.row.length) (2 * T.row.length))) (fun b => b = B) := ((Fr.refl w2 (fun b => b = B)).setCell (p := ⟨B, 1, none⟩) (fun _ => rfl) _).setCell (p := ⟨B, 0, none⟩) (fun _ => rfl) _
  have hsz : ((w2.setCell ⟨B, 1, none⟩ (.slice (some ⟨gr, 0, none⟩) T.row.length capr)).setCell ⟨B, 0, none⟩ (.slice (some ⟨w2.heap.size, 0, none⟩) (2 * T.row.length) (2 * T.row.length))).heap.size = w2.heap.size := by simp [World.setCell]
  have hN := arr_row HA ((w2.setCell ⟨B, 1, none⟩ (.slice (some ⟨gr, 0, none⟩) T.row.length capr)).setCell ⟨B, 0, none⟩ (.slice (some ⟨w2.heap.size, 0, none⟩) (2 * T.row.length) (2 * T.row.length)))
  rw [hsz] at hN
  have hpos := HT.out.inv.pos
  have hrl : (List.replicate (2 * U.row.length) (pz (.agg #[.int .i64 0, .string ⟨#[]⟩, .int .i64 0, .pointer none]))).length = 2 * T.row.length := by simp [HML.out]
  rw [HG.out]
  rw [HG.out] at HGi
  have hC2 := set40 (u := .slice (some ⟨w2.heap.size, 0, none⟩) (2 * T.row.length) (2 * T.row.length)) (set41 (u := .slice (some ⟨gr, 0, none⟩) T.row.length capr) HC.out)
  rw [hm0] at hC2
  refine ⟨rfl, ⟨w2.heap.size, ⟨⟨_, _, ?_, ⟨2 * T.row.length, [], by rw [hrl], ?_, ?_⟩, ⟨capr, restr, by rw [HML.out], (HRr.out.fr hS HsB.out).fr (alloc_fr _ _ (fun _ => False)) (fun h => h), hrne⟩⟩, ?_, HGi.out.1.i0, ?_, HT2.out.rok, ?_⟩, HF2.out.size⟩, ?_⟩
  · rw [Below.heap_alloc _ _ B (by rw [hsz]; exact hlt2)]
    exact hC2
  · rw [HML.out]
    exact hN
  · intro e
    have := congrArg List.length e
    rw [hrl] at this
    simp at this
    omega
  · intro e
    simp at e
    omega
  · rw [HML.out]
    exact Vok.rep _
  · rw [hrl]
    exact hlen
  · exact (HF2.out.trans2 hS (fun b _ e => Or.inl e)).alloc _

end Go.Proofs.YtgbkihkefdoddaaGreatDoor.R
end

section
/- table: Put: a walk. -/
namespace Go.Proofs.YtgbkihkefdoddaaGreatDoor.R
open Go.RowKit

/-- What a call leaves of a table's blocks: the old ones, or new ones. -/
def Nb (w : World) (B gr : Nat) (ge : Option Nat) (gr' : Nat) (ge' : Option Nat) : Prop := ∀ b, bl B gr' ge' b → bl B gr ge b ∨ w.heap.size ≤ b

theorem TbAt.bl_lt {w : World} {B gr : Nat} {ge : Option Nat} {T : Tb} (h : TbAt w B gr ge T) {b : Nat} (hb : bl B gr ge b) : b < w.heap.size := by
  obtain ⟨rv, ev, hc, hr, he⟩ := h.ex
  rcases hb with rfl | rfl | hb
  · exact h.lt
  · exact hr.lt
  · rw [hb] at he
    exact he.lt
theorem TbAt.nb {w : World} {B gr : Nat} {ge : Option Nat} {T : Tb} (h : TbAt w B gr ge T) : ¬ bl B gr ge w.heap.size := fun hb => Nat.lt_irrefl _ (h.bl_lt hb)

set_option maxHeartbeats 800000 in
set_option maxRecDepth 100000 in
theorem put_any {B gr : Nat} {ge : Option Nat} {T : Tb} (k : ByteArray) (x : Rw) (w : World) (h : TbAt w B gr ge T) (hI : Inv T) (hk : k.size ≤ 9223372036854775807) (hlen : 2 * T.row.length ≤ 1099511627776) :
    Calls Tryz.prog 116 #[.pointer (some ⟨B, 0, none⟩), .string k, .agg #[.int .i64 x.v, .string x.k, .int .i64 x.s, .pointer x.p]] w fun e w' => e = .returned (.tuple #[]) ∧ (∃ gr' ge', TbAt w' B gr' ge' (putT (.agg #[.int .i64 0, .string ⟨#[]⟩, .int .i64 0, .pointer none]) T k (.agg #[.int .i64 x.v, .string x.k, .int .i64 x.s, .pointer x.p])) ∧ Nb w B gr ge gr' ge') ∧ Fr w w' (bl B gr ge) := by
  have hlt := h.lt
  have HT := hid h
  have HMi := hid (move_inv (.agg #[.int .i64 0, .string ⟨#[]⟩, .int .i64 0, .pointer none]) h.inv 4)
  have HMv := hid (fun (W : World) (hf : Fr w W (fun _ => False)) => move_any 4 W (h.step hf))
  have HNB := hid h.nb
  have HPd : Hid (putT (.agg #[.int .i64 0, .string ⟨#[]⟩, .int .i64 0, .pointer none]) T k (.agg #[.int .i64 x.v, .string x.k, .int .i64 x.s, .pointer x.p]) = (
    if (placeT (moveT (.agg #[.int .i64 0, .string ⟨#[]⟩, .int .i64 0, .pointer none]) T 4) k).2.2 then
      (if (placeT (moveT (.agg #[.int .i64 0, .string ⟨#[]⟩, .int .i64 0, .pointer none]) T 4) k).2.1 then ⟨(moveT (.agg #[.int .i64 0, .string ⟨#[]⟩, .int .i64 0, .pointer none]) T 4).row, putIn (moveT (.agg #[.int .i64 0, .string ⟨#[]⟩, .int .i64 0, .pointer none]) T 4).elder (placeT (moveT (.agg #[.int .i64 0, .string ⟨#[]⟩, .int .i64 0, .pointer none]) T 4) k).1 (.agg #[.int .i64 x.v, .string x.k, .int .i64 x.s, .pointer x.p]), (moveT (.agg #[.int .i64 0, .string ⟨#[]⟩, .int .i64 0, .pointer none]) T 4).moved, (moveT (.agg #[.int .i64 0, .string ⟨#[]⟩, .int .i64 0, .pointer none]) T 4).keys⟩ else ⟨putIn (moveT (.agg #[.int .i64 0, .string ⟨#[]⟩, .int .i64 0, .pointer none]) T 4).row (placeT (moveT (.agg #[.int .i64 0, .string ⟨#[]⟩, .int .i64 0, .pointer none]) T 4) k).1 (.agg #[.int .i64 x.v, .string x.k, .int .i64 x.s, .pointer x.p]), (moveT (.agg #[.int .i64 0, .string ⟨#[]⟩, .int .i64 0, .pointer none]) T 4).elder, (moveT (.agg #[.int .i64 0, .string ⟨#[]⟩, .int .i64 0, .pointer none]) T 4).moved, (moveT (.agg #[.int .i64 0, .string ⟨#[]⟩, .int .i64 0, .pointer none]) T 4).keys⟩)
    else
      ⟨layP (if 3 * (moveT (.agg #[.int .i64 0, .string ⟨#[]⟩, .int .i64 0, .pointer none]) T 4).row.length < 4 * ((moveT (.agg #[.int .i64 0, .string ⟨#[]⟩, .int .i64 0, .pointer none]) T 4).keys + 1) then growT (.agg #[.int .i64 0, .string ⟨#[]⟩, .int .i64 0, .pointer none]) (moveT (.agg #[.int .i64 0, .string ⟨#[]⟩, .int .i64 0, .pointer none]) T 4) else (moveT (.agg #[.int .i64 0, .string ⟨#[]⟩, .int .i64 0, .pointer none]) T 4)).row k (.agg #[.int .i64 x.v, .string x.k, .int .i64 x.s, .pointer x.p]), (if 3 * (moveT (.agg #[.int .i64 0, .string ⟨#[]⟩, .int .i64 0, .pointer none]) T 4).row.length < 4 * ((moveT (.agg #[.int .i64 0, .string ⟨#[]⟩, .int .i64 0, .pointer none]) T 4).keys + 1) then growT (.agg #[.int .i64 0, .string ⟨#[]⟩, .int .i64 0, .pointer none]) (moveT (.agg #[.int .i64 0, .string ⟨#[]⟩, .int .i64 0, .pointer none]) T 4) else (moveT (.agg #[.int .i64 0, .string ⟨#[]⟩, .int .i64 0, .pointer none]) T 4)).elder, (if 3 * (moveT (.agg #[.int .i64 0, .string ⟨#[]⟩, .int .i64 0, .pointer none]) T 4).row.length < 4 * ((moveT (.agg #[.int .i64 0, .string ⟨#[]⟩, .int .i64 0, .pointer none]) T 4).keys + 1) then growT (.agg #[.int .i64 0, .string ⟨#[]⟩, .int .i64 0, .pointer none]) (moveT (.agg #[.int .i64 0, .string ⟨#[]⟩, .int .i64 0, .pointer none]) T 4) else (moveT (.agg #[.int .i64 0, .string ⟨#[]⟩, .int .i64 0, .pointer none]) T 4)).moved, (if 3 * (moveT (.agg #[.int .i64 0, .string ⟨#[]⟩, .int .i64 0, .pointer none]) T 4).row.length < 4 * ((moveT (.agg #[.int .i64 0, .string ⟨#[]⟩, .int .i64 0, .pointer none]) T 4).keys + 1) then growT (.agg #[.int .i64 0, .string ⟨#[]⟩, .int .i64 0, .pointer none]) (moveT (.agg #[.int .i64 0, .string ⟨#[]⟩, .int .i64 0, .pointer none]) T 4) else (moveT (.agg #[.int .i64 0, .string ⟨#[]⟩, .int .i64 0, .pointer none]) T 4)).keys + 1⟩)) := rfl
  clear h
  go_enter Tryz.func116, Tryz.ntmps116
  go_wp2_with fail
  refine (HMv.out _ (alloc_fr _ _ _)).mono ?_
  rintro e w1 ⟨rfl, ⟨ge1, hT1, hge⟩, hf0⟩
  have HVX := hid ((hf0.block w.heap.size (by simp) HNB.out).trans (heap_last _ _ _ rfl))
  obtain ⟨v0, v1, v2, v3⟩ := cells4 HVX.out
  have hvl := lt_of_block HVX.out
  have hf1 := (alloc_fr w _ (bl B gr ge)).trans hf0
  clear hf0
  generalize moveT (.agg #[.int .i64 0, .string ⟨#[]⟩, .int .i64 0, .pointer none]) T 4 = U at *
  have HT1 := hid hT1
  have HF1 := hid hf1
  have HGe := hid hge
  have hs1 := hf1.size
  have hlU : 2 * U.row.length ≤ 1099511627776 := by rw [HMi.out.2.2.2.1]; exact hlen
  clear hge hf1 HMv
  have HFn := hid (find_any k w1 hT1 hk)
  obtain ⟨rv, ev, hc, hr, he⟩ := hT1.ex
  obtain ⟨capr, restr, rfl, hRr, hrne⟩ := hr
  unfold spot at HFn
  have HNb0 : Hid (Nb w B gr ge gr ge1) := by
    intro b hb
    left
    rcases hb with hb | hb | hb
    · exact Or.inl hb
    · exact Or.inr (Or.inl hb)
    · rcases HGe.out with e | e
      · rw [e] at hb; exact Or.inr (Or.inr hb)
      · rw [e] at hb; cases hb
  have HFm : Hid (∀ w' : World, Fr w1 w' (bl B gr ge1) → Fr w w' (bl B gr ge)) := fun w' hf => HF1.out.trans2 hf (fun b hb e => by
    rcases HNb0.out b e with h1 | h1
    · exact h1
    · omega)
  have HNB1 : Hid (¬ bl B gr ge1 w.heap.size) := fun hb => by
    rcases hb with hb | hb | hb
    · exact HNB.out (Or.inl hb)
    · exact HNB.out (Or.inr (Or.inl hb))
    · rcases HGe.out with e | e
      · rw [e] at hb; exact HNB.out (Or.inr (Or.inr hb))
      · rw [e] at hb; cases hb
  have hfB := free4 hc
  have hmI := HMi.out.1
  have hmH := HMi.out.2.1
  have HIP : Hid (Inv (putT (.agg #[.int .i64 0, .string ⟨#[]⟩, .int .i64 0, .pointer none]) T k (.agg #[.int .i64 x.v, .string x.k, .int .i64 x.s, .pointer x.p])) ∧ (putT (.agg #[.int .i64 0, .string ⟨#[]⟩, .int .i64 0, .pointer none]) T k (.agg #[.int .i64 x.v, .string x.k, .int .i64 x.s, .pointer x.p])).row.length ≤ 1099511627776) := by
    rcases Classical.em (∃ v, Has T k v) with ⟨v, hv⟩ | hv
    · obtain ⟨a1, _, _, a4, _⟩ := put_there (z := .agg #[.int .i64 0, .string ⟨#[]⟩, .int .i64 0, .pointer none]) hI (.agg #[.int .i64 x.v, .string x.k, .int .i64 x.s, .pointer x.p]) hv
      exact ⟨a1, by rw [a4]; omega⟩
    · obtain ⟨a1, _, _, a4, _⟩ := put_new (z := .agg #[.int .i64 0, .string ⟨#[]⟩, .int .i64 0, .pointer none]) hI (.agg #[.int .i64 x.v, .string x.k, .int .i64 x.s, .pointer x.p]) (fun v h => hv ⟨v, h⟩)
      refine ⟨a1, ?_⟩
      rw [a4]
      split <;> omega
  have HneB := hid hT1.neB
  have Hne := hid hT1.ne
  have HC := hid hc
  have HR := hid hRr
  have HE := hid he
  have hlt1 := hT1.lt
  have HOkx : Hid (okP ⟨1, k, .agg #[.int .i64 x.v, .string x.k, .int .i64 x.s, .pointer x.p]⟩) := ⟨⟨x, rfl⟩, hk⟩
  rcases place_cases hT1.inv k with ⟨i, hf, hp⟩ | ⟨i, hf, hp⟩ | ⟨hn, hp⟩
  · rw [hp] at HFn HPd
    simp only [if_true, Bool.false_eq_true, if_false] at HFn HPd
    obtain ⟨b1, b2, b3, b4, b5, b6⟩ := hRr.cells i hf.1
    have f2 := hRr.free (i * 6 + 2)
    have f3 := hRr.free (i * 6 + 3)
    have f4 := hRr.free (i * 6 + 4)
    have f5 := hRr.free (i * 6 + 5)
    have hgl := hRr.lt
    have HFd := hid hf
    clear hc he hRr hT1 hf hp b1 b2 hfB hmI hmH hI
    go_wp2_with fail
    refine HFn.out.mono ?_
    rintro e w2 ⟨rfl, hw2⟩
    have hw2 := hw2.symm
    subst hw2
    go_wp2_with fail
    refine bodyPost_ret (results_none Tryz.results116 _ _ _) rfl ?_
    rw [HPd.out] at HIP ⊢
    have hS := set4_fr w1 gr (i * 6) x (Fr.refl w1 (fun b => b = gr)) (fun _ => rfl)
    have hL : (putIn U.row i (.agg #[.int .i64 x.v, .string x.k, .int .i64 x.s, .pointer x.p])).length = U.row.length := by simp [putIn]
    refine ⟨rfl, ⟨gr, ge1, ⟨⟨_, _, (hS.block B hlt1 (fun e => HneB.out.1 e.symm)).trans HC.out, ⟨capr, restr, by rw [hL], HR.out.setv i HFd.out.1 x, ?_⟩, HE.out.fr hS (fun g e e2 => Hne.out (by rw [e, e2]))⟩, Hne.out, HIP.out.1.i0, ?_, HT1.out.eok, HIP.out.2⟩, HNb0.out⟩, HFm.out _ (hS.mono (fun b _ e => Or.inr (Or.inl e)))⟩
    · intro e
      apply hrne
      apply List.eq_nil_of_length_eq_zero
      rw [← hL]
      simp only at e
      rw [e]; rfl
    · exact HT1.out.rok.set i _ HFd.out.1 ⟨⟨x, rfl⟩, (HT1.out.rok i HFd.out.1).2⟩
  · rw [hp] at HFn HPd
    simp only [if_true] at HFn HPd
    have hi := hf.1
    have hene : U.elder ≠ [] := by intro e; rw [e] at hi; simp at hi
    cases ge1 with
    | none => exact absurd he.1 hene
    | some g =>
      obtain ⟨cape, reste, rfl, hRe, _⟩ := he
      obtain ⟨b1, b2, b3, b4, b5, b6⟩ := hRe.cells i hf.1
      have f2 := hRe.free (i * 6 + 2)
      have f3 := hRe.free (i * 6 + 3)
      have f4 := hRe.free (i * 6 + 4)
      have f5 := hRe.free (i * 6 + 5)
      have hgl := hRe.lt
      have HFd := hid hf
      have HRe := hid hRe
      simp only [Option.getD_some] at HFn
      clear hc hRr hRe hT1 hf hp b1 b2 hfB hmI hmH hI hi
      go_wp2_with fail
      refine HFn.out.mono ?_
      rintro e w2 ⟨rfl, hw2⟩
      have hw2 := hw2.symm
      subst hw2
      go_wp2_with fail
      refine bodyPost_ret (results_none Tryz.results116 _ _ _) rfl ?_
      rw [HPd.out] at HIP ⊢
      have hS := set4_fr w1 g (i * 6) x (Fr.refl w1 (fun b => b = g)) (fun _ => rfl)
      have hL : (putIn U.elder i (.agg #[.int .i64 x.v, .string x.k, .int .i64 x.s, .pointer x.p])).length = U.elder.length := by simp [putIn]
      refine ⟨rfl, ⟨gr, some g, ⟨⟨_, _, (hS.block B hlt1 (fun e => HneB.out.2 (by rw [e]))).trans HC.out, ⟨capr, restr, rfl, HR.out.fr hS (fun e => Hne.out (by rw [e])), hrne⟩, ⟨cape, reste, by rw [hL], HRe.out.setv i HFd.out.1 x, ?_⟩⟩, Hne.out, HIP.out.1.i0, HT1.out.rok, ?_, HIP.out.2⟩, HNb0.out⟩, HFm.out _ (hS.mono (fun b _ e => Or.inr (Or.inr (by rw [e]))))⟩
      · intro e
        apply hene
        apply List.eq_nil_of_length_eq_zero
        rw [← hL]
        simp only at e
        rw [e]; rfl
      · exact HT1.out.eok.set i _ HFd.out.1 ⟨⟨x, rfl⟩, (HT1.out.eok i HFd.out.1).2⟩
  · rw [hp] at HFn HPd
    simp only [Bool.false_eq_true, if_false] at HFn HPd
    obtain ⟨c0, c1, c2, c3⟩ := cells4 hc
    have hnT : ∀ v, ¬ Has U k v := hn
    have hkl : U.keys ≤ 1099511627776 := by have := hT1.inv.room; have := hT1.len; omega
    have hrl := hT1.len
    by_cases hg : 3 * U.row.length < 4 * (U.keys + 1)
    · rw [if_pos hg] at HPd
      have t1 : 3 * (U.row.length : Int) < 4 * ((U.keys : Int) + 1) := by omega
      have HGi := hid (grow_inv (.agg #[.int .i64 0, .string ⟨#[]⟩, .int .i64 0, .pointer none]) hmI)
      have HGr := hid (fun (W : World) (hW : Fr w1 W (fun _ => False)) => grow_any W (hT1.step hW) hmI (by omega))
      have HnG := hid (fun v h => hn v ((HGi.out.2.1 k v).1 h))
      clear hc he hRr hT1 hp hfB hmI hmH hI hg c1 c2 hn hnT
      go_wp2_with fail
      refine HFn.out.mono ?_
      rintro e w2 ⟨rfl, hw2⟩
      have hw2 := hw2.symm
      subst hw2
      go_wp2_with fail
      go_quiet (fail)
      go_wp2_with fail
      refine (HGr.out _ ((Fr.refl _ _).drewN _)).mono ?_
      rintro e w3 ⟨rfl, ⟨gn, hT3, hgn⟩, hf3⟩
      have HF3 := hid (HF1.out.trans2 ((Fr.refl w1 (fun _ => False)).drewN nq) (fun _ _ h => h.elim))
      have HF3b := hid (show Fr w1 w3 (bl B gr ge1) from hf3.ofDrewN)
      have hgn1 : w.heap.size ≤ gn := Nat.le_trans hs1 hgn
      have HVX3 := hid ((HF3b.out.block w.heap.size (lt_of_block HVX.out) HNB1.out).trans HVX.out)
      obtain ⟨y0, y1, y2, y3⟩ := cells4 HVX3.out
      have hvl3 := lt_of_block HVX3.out
      clear hf3 c0 c3 v0 v1 v2 v3
      have hlt3 := hT3.lt
      have HT3 := hid hT3
      obtain ⟨rv3, ev3, hc3, hr3, he3⟩ := hT3.ex
      obtain ⟨cap3, rest3, rfl, hR3, hrne3⟩ := hr3
      obtain ⟨d0, d1, d2, d3⟩ := cells4 hc3
      have e3 := free4 hc3 3
      have HLy := hid (fun (W : World) (hW : RowG 195 W gn (growT (.agg #[.int .i64 0, .string ⟨#[]⟩, .int .i64 0, .pointer none]) U).row rest3) => lay_any (cap := cap3) k x W hW hT3.inv.row_emp hk hT3.len)
      have HR3 := hid hR3
      have HC3 := hid hc3
      have HE3 := hid he3
      have HkG : Hid ((growT (.agg #[.int .i64 0, .string ⟨#[]⟩, .int .i64 0, .pointer none]) U).keys ≤ 1099511627776) := by have := hT3.inv.room; have := hT3.len; show (growT (.agg #[.int .i64 0, .string ⟨#[]⟩, .int .i64 0, .pointer none]) U).keys ≤ _; omega
      have hkG := HkG.out
      clear hc3 hR3 he3 hT3 d1 d2
      generalize hGG : (growT (.agg #[.int .i64 0, .string ⟨#[]⟩, .int .i64 0, .pointer none]) U) = G at *
      have HGG := hid hGG
      clear hGG
      have HNeB := hid (show B ≠ gn from fun e => HT3.out.neB.1 e.symm)
      have HNeV := hid (show w.heap.size ≠ gn from fun e => by have h5 := hgn; simp at h5; omega)
      have HK := hid (fun (W' : World) (hf : Fr w3 W' (fun b => b = gn)) => (show W'.cell? ⟨B, 0, none⟩ = some (.slice (some ⟨gn, 0, none⟩) G.row.length cap3) ∧ W'.cell? ⟨w.heap.size, 0, none⟩ = some (.int .i64 x.v) ∧ W'.cell? ⟨w.heap.size, 1, none⟩ = some (.string x.k) ∧ W'.cell? ⟨w.heap.size, 2, none⟩ = some (.int .i64 x.s) ∧ W'.cell? ⟨w.heap.size, 3, none⟩ = some (.pointer x.p) from by
        obtain ⟨q0, _⟩ := cells4 ((hf.block B hlt3 HNeB.out).trans HC3.out)
        exact ⟨q0, cells4 ((hf.block w.heap.size hvl3 HNeV.out).trans HVX3.out)⟩))
      have HF := hid (Fr.refl w3 (fun b => b = gn))
      go_wp2_with fail
      first
        | go_region_held3 (fun W' => Hid (Fr w3 W' (fun b => b = gn)) ∧ W'.cell? ⟨B, 0, none⟩ = some (.slice (some ⟨gn, 0, none⟩) G.row.length cap3) ∧ W'.cell? ⟨w.heap.size, 0, none⟩ = some (.int .i64 x.v) ∧ W'.cell? ⟨w.heap.size, 1, none⟩ = some (.string x.k) ∧ W'.cell? ⟨w.heap.size, 2, none⟩ = some (.int .i64 x.s) ∧ W'.cell? ⟨w.heap.size, 3, none⟩ = some (.pointer x.p))
            ((refine (fun h => ⟨h, HK.out _ h⟩ : Fr w3 _ (fun b => b = gn) → _) ?_; repeat (first | exact HF.out | apply Fr.drewN | apply Fr.drew)))
            ((go_at_call 152; refine (HLy.out _ (by exact HR3.out)).mono ?_; rintro e w4 ⟨rfl, hR4, hf4⟩; have HF := hid (Fr.trans (a := w3) (by repeat (first | exact HF.out | apply Fr.drewN | apply Fr.drew)) hf4); have HR4 := hid hR4; clear hR4 hf4))
        | fail
      have HF4 := HF
      have hf4 := HF.out
      have hB4 : w4.heap[B]? = _ := (hf4.block B hlt3 (fun e => HT3.out.neB.1 e.symm)).trans HC3.out
      obtain ⟨d0', d1', d2', d3'⟩ := cells4 hB4
      have e3' := free4 hB4 3
      have hlt4 := lt_of_block hB4
      have HB4 := hid hB4
      clear hf4 hB4 d0' d1' d2' d0 d3 y0 y1 y2 y3
      go_wp2_with fail
      go_end0
      rw [HPd.out] at HIP ⊢
      have hS := set_fr w4 ⟨B, 3, none⟩ (.int .i64 ((G.keys : Int) + 1))
      have hL : (layP G.row k (.agg #[.int .i64 x.v, .string x.k, .int .i64 x.s, .pointer x.p])).length = G.row.length := layP_len _ _ _
      refine ⟨rfl, ⟨gn, some gr, ⟨⟨_, _, set43 HB4.out, ⟨cap3, rest3, by rw [hL], HR4.out.fr hS HT3.out.neB.1, ?_⟩, (HE3.out.fr HF4.out (fun g e e2 => HT3.out.ne (by rw [e, e2]))).fr hS (fun g e e2 => HT3.out.neB.2 (by rw [e, e2]))⟩, HT3.out.ne, HIP.out.1.i0, layP_vok HT3.out.rok HT3.out.inv.row_emp HOkx.out, HT3.out.eok, HIP.out.2⟩, (fun b hb => by
        rcases hb with hb | hb | hb
        · exact Or.inl (Or.inl hb)
        · exact Or.inr (by omega)
        · exact Or.inl (Or.inr (Or.inl (by cases hb; rfl))))⟩, HFm.out _ ((HF3b.out.trans2 HF4.out (fun b hb e => by have := HF3b.out.size; have h5 := hgn; simp at h5; omega)).trans2 hS (fun b _ e => Or.inl e))⟩
      · intro e
        apply hrne3
        apply List.eq_nil_of_length_eq_zero
        rw [← hL]
        simp only at e
        rw [e]; rfl
    · rw [if_neg hg] at HPd
      have t1 : ¬ 3 * (U.row.length : Int) < 4 * ((U.keys : Int) + 1) := by omega
      clear hc he hRr hT1 hp hfB hmI hmH hI hg c1 c2 hn hnT
      go_wp2_with fail
      refine HFn.out.mono ?_
      rintro e w2 ⟨rfl, hw2⟩
      have hw2 := hw2.symm
      subst hw2
      go_wp2_with fail
      go_quiet (fail)
      have e3 := free4 HC.out 3
      have HLy := hid (fun (W : World) (hW : RowG 195 W gr U.row restr) => lay_any (cap := capr) k x W hW HT1.out.inv.row_emp hk hrl)
      have HNeV := hid (show w.heap.size ≠ gr from fun e => HNB.out (Or.inr (Or.inl e)))
      have HK := hid (fun (W' : World) (hf : Fr w1 W' (fun b => b = gr)) => (show W'.cell? ⟨B, 0, none⟩ = some (.slice (some ⟨gr, 0, none⟩) U.row.length capr) ∧ W'.cell? ⟨w.heap.size, 0, none⟩ = some (.int .i64 x.v) ∧ W'.cell? ⟨w.heap.size, 1, none⟩ = some (.string x.k) ∧ W'.cell? ⟨w.heap.size, 2, none⟩ = some (.int .i64 x.s) ∧ W'.cell? ⟨w.heap.size, 3, none⟩ = some (.pointer x.p) from by
        obtain ⟨q0, _⟩ := cells4 ((hf.block B hlt1 (fun e => HneB.out.1 e.symm)).trans HC.out)
        exact ⟨q0, cells4 ((hf.block w.heap.size hvl HNeV.out).trans HVX.out)⟩))
      have HF := hid (Fr.refl w1 (fun b => b = gr))
      go_wp2_with fail
      first
        | go_region_held3 (fun W' => Hid (Fr w1 W' (fun b => b = gr)) ∧ W'.cell? ⟨B, 0, none⟩ = some (.slice (some ⟨gr, 0, none⟩) U.row.length capr) ∧ W'.cell? ⟨w.heap.size, 0, none⟩ = some (.int .i64 x.v) ∧ W'.cell? ⟨w.heap.size, 1, none⟩ = some (.string x.k) ∧ W'.cell? ⟨w.heap.size, 2, none⟩ = some (.int .i64 x.s) ∧ W'.cell? ⟨w.heap.size, 3, none⟩ = some (.pointer x.p))
            ((refine (fun h => ⟨h, HK.out _ h⟩ : Fr w1 _ (fun b => b = gr) → _) ?_; repeat (first | exact HF.out | apply Fr.drewN | apply Fr.drew)))
            ((go_at_call 152; refine (HLy.out _ (by exact HR.out)).mono ?_; rintro e w4 ⟨rfl, hR4, hf4⟩; have HF := hid (Fr.trans (a := w1) (by repeat (first | exact HF.out | apply Fr.drewN | apply Fr.drew)) hf4); have HR4 := hid hR4; clear hR4 hf4))
        | fail
      have HF4 := HF
      clear c0 c3 e3
      have hB4 : w4.heap[B]? = _ := (HF4.out.block B hlt1 (fun e => HneB.out.1 e.symm)).trans HC.out
      obtain ⟨d0', d1', d2', d3'⟩ := cells4 hB4
      have e3' := free4 hB4 3
      have hlt4 := lt_of_block hB4
      have HB4 := hid hB4
      clear hB4 d0' d1' d2'
      go_wp2_with fail
      go_end0
      rw [HPd.out] at HIP ⊢
      have hS := set_fr w4 ⟨B, 3, none⟩ (.int .i64 ((U.keys : Int) + 1))
      have hL : (layP U.row k (.agg #[.int .i64 x.v, .string x.k, .int .i64 x.s, .pointer x.p])).length = U.row.length := layP_len _ _ _
      refine ⟨rfl, ⟨gr, ge1, ⟨⟨_, _, set43 HB4.out, ⟨capr, restr, by rw [hL], HR4.out.fr hS HneB.out.1, ?_⟩, (HE.out.fr HF4.out (fun g e e2 => Hne.out (by rw [e, e2]))).fr hS (fun g e e2 => HneB.out.2 (by rw [e, e2]))⟩, Hne.out, HIP.out.1.i0, layP_vok HT1.out.rok HT1.out.inv.row_emp HOkx.out, HT1.out.eok, HIP.out.2⟩, HNb0.out⟩, HFm.out _ ((HF4.out.mono (fun b _ e => Or.inr (Or.inl e))).trans2 hS (fun b _ e => Or.inl e))⟩
      · intro e
        apply hrne
        apply List.eq_nil_of_length_eq_zero
        rw [← hL]
        simp only at e
        rw [e]; rfl
end Go.Proofs.YtgbkihkefdoddaaGreatDoor.R
end

section
/- table: Drop: a walk. -/
namespace Go.Proofs.YtgbkihkefdoddaaGreatDoor.R
open Go.RowKit

theorem field_val (W : World) (k : ByteArray) (x : Rw) : (Instr.field 193 (.agg #[.string k, .int .i64 x.v, .string x.k, .int .i64 x.s, .pointer x.p]) 1).run Tryz.prog W = .ok (.agg #[.int .i64 x.v, .string x.k, .int .i64 x.s, .pointer x.p]) W := by kernel_rfl

def setR (w : World) (b : Nat) (x : Rw) : World := (((w.setCell ⟨b, 0, none⟩ (.int .i64 x.v)).setCell ⟨b, 1, none⟩ (.string x.k)).setCell ⟨b, 2, none⟩ (.int .i64 x.s)).setCell ⟨b, 3, none⟩ (.pointer x.p)
theorem setR_fr (w : World) (b : Nat) (x : Rw) : Fr w (setR w b x) (fun c => c = b) :=
  ((((Fr.refl w (fun c => c = b)).setCell (p := ⟨b, 0, none⟩) (fun _ => rfl) _).setCell (p := ⟨b, 1, none⟩) (fun _ => rfl) _).setCell (p := ⟨b, 2, none⟩) (fun _ => rfl) _).setCell (p := ⟨b, 3, none⟩) (fun _ => rfl) _
theorem setR_at {w : World} {b : Nat} {x y z u : Value} {e : TypeId} (h : w.heap[b]? = some (.cells #[x, y, z, u] e (0, 0))) (r : Rw) : (setR w b r).heap[b]? = some (.cells #[.int .i64 r.v, .string r.k, .int .i64 r.s, .pointer r.p] e (0, 0)) := set43 (set42 (set41 (set40 h)))

set_option maxHeartbeats 3000000 in
set_option maxRecDepth 100000 in
theorem drop_any {B gr : Nat} {ge : Option Nat} {T : Tb} (k : ByteArray) (w : World) (h : TbAt w B gr ge T) (hI : Inv T) (hk : k.size ≤ 9223372036854775807) :
    Calls Tryz.prog 113 #[.pointer (some ⟨B, 0, none⟩), .string k] w fun e w' => e = .returned (.tuple #[(dropV (.agg #[.int .i64 0, .string ⟨#[]⟩, .int .i64 0, .pointer none]) T k).1, .bool (dropV (.agg #[.int .i64 0, .string ⟨#[]⟩, .int .i64 0, .pointer none]) T k).2]) ∧ (∃ ge', TbAt w' B gr ge' (dropT (.agg #[.int .i64 0, .string ⟨#[]⟩, .int .i64 0, .pointer none]) T k) ∧ (ge' = ge ∨ ge' = none)) ∧ Fr w w' (bl B gr ge) := by
  have hlt := h.lt
  have HMv := hid (fun (W : World) (hf : Fr w W (fun _ => False)) => move_any 4 W (h.step hf))
  have HNB := hid h.nb
  have HDi := hid (drop_inv (z := .agg #[.int .i64 0, .string ⟨#[]⟩, .int .i64 0, .pointer none]) hI k)
  have HLe := hid h.len
  have HPd : Hid (dropT (.agg #[.int .i64 0, .string ⟨#[]⟩, .int .i64 0, .pointer none]) T k = (
    if (placeT (moveT (.agg #[.int .i64 0, .string ⟨#[]⟩, .int .i64 0, .pointer none]) T 4) k).2.2 then
      (if (placeT (moveT (.agg #[.int .i64 0, .string ⟨#[]⟩, .int .i64 0, .pointer none]) T 4) k).2.1 then ⟨(moveT (.agg #[.int .i64 0, .string ⟨#[]⟩, .int .i64 0, .pointer none]) T 4).row, (moveT (.agg #[.int .i64 0, .string ⟨#[]⟩, .int .i64 0, .pointer none]) T 4).elder.set (placeT (moveT (.agg #[.int .i64 0, .string ⟨#[]⟩, .int .i64 0, .pointer none]) T 4) k).1 (pg (.agg #[.int .i64 0, .string ⟨#[]⟩, .int .i64 0, .pointer none])), (moveT (.agg #[.int .i64 0, .string ⟨#[]⟩, .int .i64 0, .pointer none]) T 4).moved, (moveT (.agg #[.int .i64 0, .string ⟨#[]⟩, .int .i64 0, .pointer none]) T 4).keys - 1⟩ else ⟨mendL (.agg #[.int .i64 0, .string ⟨#[]⟩, .int .i64 0, .pointer none]) (moveT (.agg #[.int .i64 0, .string ⟨#[]⟩, .int .i64 0, .pointer none]) T 4).row (placeT (moveT (.agg #[.int .i64 0, .string ⟨#[]⟩, .int .i64 0, .pointer none]) T 4) k).1, (moveT (.agg #[.int .i64 0, .string ⟨#[]⟩, .int .i64 0, .pointer none]) T 4).elder, (moveT (.agg #[.int .i64 0, .string ⟨#[]⟩, .int .i64 0, .pointer none]) T 4).moved, (moveT (.agg #[.int .i64 0, .string ⟨#[]⟩, .int .i64 0, .pointer none]) T 4).keys - 1⟩)
    else (moveT (.agg #[.int .i64 0, .string ⟨#[]⟩, .int .i64 0, .pointer none]) T 4))) := rfl
  have HVd : Hid (dropV (.agg #[.int .i64 0, .string ⟨#[]⟩, .int .i64 0, .pointer none]) T k = getT (.agg #[.int .i64 0, .string ⟨#[]⟩, .int .i64 0, .pointer none]) (moveT (.agg #[.int .i64 0, .string ⟨#[]⟩, .int .i64 0, .pointer none]) T 4) k) := rfl
  clear h hI
  go_enter Tryz.func113, Tryz.ntmps113
  go_wp2_with fail
  refine (HMv.out _ (alloc_fr _ _ _)).mono ?_
  rintro e w1 ⟨rfl, ⟨ge1, hT1, hge⟩, hf0⟩
  have HVX := hid ((hf0.block w.heap.size (by simp) HNB.out).trans (heap_last _ _ _ rfl))
  obtain ⟨v0, v1, v2, v3⟩ := cells4 HVX.out
  have hvl := lt_of_block HVX.out
  have hf1 := (alloc_fr w _ (bl B gr ge)).trans hf0
  clear hf0
  have HF1 := hid hf1
  have z0 := free4 HVX.out 0
  have z1 := free4 HVX.out 1
  have z2 := free4 HVX.out 2
  have z3 := free4 HVX.out 3
  generalize moveT (.agg #[.int .i64 0, .string ⟨#[]⟩, .int .i64 0, .pointer none]) T 4 = U at *
  have HT1 := hid hT1
  have HGe := hid hge
  have hs1 := hf1.size
  have HFm : Hid (∀ w' : World, Fr w1 w' (bl B gr ge1) → Fr w w' (bl B gr ge)) := fun w' hf => hf1.trans2 hf (fun b hb e => by
    rcases e with e | e | e
    · exact Or.inl e
    · exact Or.inr (Or.inl e)
    · rcases HGe.out with e2 | e2
      · rw [e2] at e; exact Or.inr (Or.inr e)
      · rw [e2] at e; cases e)
  have HNB1 : Hid (¬ bl B gr ge1 w.heap.size) := fun hb => by
    rcases hb with hb | hb | hb
    · exact HNB.out (Or.inl hb)
    · exact HNB.out (Or.inr (Or.inl hb))
    · rcases HGe.out with e | e
      · rw [e] at hb; exact HNB.out (Or.inr (Or.inr hb))
      · rw [e] at hb; cases hb
  clear hge hf1 HMv
  have HPl := hid (place_any k w1 hT1 hk)
  obtain ⟨rv, ev, hc, hr, he⟩ := hT1.ex
  obtain ⟨capr, restr, rfl, hRr, hrne⟩ := hr
  have HneB := hid hT1.neB
  have Hne := hid hT1.ne
  have HC := hid hc
  have HR := hid hRr
  have HE := hid he
  have hlt1 := hT1.lt
  have hrl := hT1.len
  obtain ⟨c0, c1, c2, c3⟩ := cells4 hc
  have f3 := free4 hc 3
  have hkl : U.keys ≤ 1099511627776 := by have := hT1.inv.room; have := hT1.len; omega
  rcases place_cases hT1.inv k with ⟨i, hf, hp⟩ | ⟨i, hf, hp⟩ | ⟨hn, hp⟩
  · have HGv := hid (get_has (.agg #[.int .i64 0, .string ⟨#[]⟩, .int .i64 0, .pointer none]) hT1.inv (Or.inl hf.ent))
    rw [hp] at HPl HPd
    simp only [if_true, Bool.false_eq_true, if_false] at HPl HPd
    obtain ⟨⟨x, hx⟩, hks⟩ := hT1.rok i hf.1
    rw [hx] at HGv
    obtain ⟨b1, b2, b3, b4, b5, b6⟩ := hRr.cellx i hf.1 hx
    have b3' : w1.cell? ⟨gr, i * 6 + 1 + 1, none⟩ = some (.int .i64 x.v) := b3
    have b4' : w1.cell? ⟨gr, i * 6 + 1 + 1 + 1, none⟩ = some (.string x.k) := b4
    have b5' : w1.cell? ⟨gr, i * 6 + 1 + 1 + 2, none⟩ = some (.int .i64 x.s) := b5
    have b6' : w1.cell? ⟨gr, i * 6 + 1 + 1 + 3, none⟩ = some (.pointer x.p) := b6
    have hgB := HneB.out.1
    have hgN : gr ≠ w.heap.size := fun e => HNB1.out (Or.inr (Or.inl e.symm))
    have hBN : B ≠ w.heap.size := fun e => HNB1.out (Or.inl e.symm)
    have hNB : w.heap.size ≠ B := fun e => hBN e.symm
    have hgl := hRr.lt
    obtain ⟨j, hj, hj0⟩ := hT1.inv.row_emp
    have HMe := hid (fun (W : World) (hW : RowG 195 W gr U.row restr) => mend_any (cap := capr) i j W hW hf.1 hj hj0 (by rintro rfl; rw [hf.2.1] at hj0; cases hj0) hT1.rok hrl)
    have HKp : Hid (1 ≤ U.keys) := by
      have h1 := hT1.inv.keys
      have : 0 < cnt U.row := by
        unfold cnt
        rw [List.countP_pos_iff]
        exact ⟨U.row[i]'hf.1, List.getElem_mem hf.1, by have := hf.2.1; rw [at_get hf.1] at this; simp [this]⟩
      show 1 ≤ U.keys
      omega
    have hkp := HKp.out
    have t0 : (0 : Int) ≤ (i : Int) := by omega
    have t1 : (i : Int) < (U.row.length : Int) := by have := hf.1; omega
    have HFd := hid hf
    clear hc he hRr hT1 hf hp b1 b2 hx hks hj hj0 c1 c2
    go_wp2_with fail
    refine HPl.out.mono ?_
    rintro e w2 ⟨rfl, hw2⟩
    have hw2 := hw2.symm
    subst hw2
    go_wp2_with fail
    have hS := set_fr w1 ⟨B, 3, none⟩ (.int .i64 ((U.keys : Int) - 1))
    have hS2 := setR_fr (w1.setCell ⟨B, 3, none⟩ (.int .i64 ((U.keys : Int) - 1))) w.heap.size x
    have hV2 := setR_at ((hS.block w.heap.size hvl (fun e => hNB e)).trans HVX.out) x
    refine (HMe.out (setR (w1.setCell ⟨B, 3, none⟩ (.int .i64 ((U.keys : Int) - 1))) w.heap.size x) ((HR.out.fr hS HneB.out.1).fr hS2 hgN)).mono ?_
    rintro e w3 ⟨rfl, hR3, hV3, hf3⟩
    have HVN := hid ((hf3.block w.heap.size (lt_of_block hV2) (fun e => hgN e.symm)).trans hV2)
    have HR3 := hid hR3
    have HV3 := hid hV3
    have HF3 := hid hf3
    have HS := hid hS
    have HS2 := hid hS2
    clear hR3 hV3 hf3 hS hS2 hV2 v0 v1 v2 v3 z0 z1 z2 z3 b3 b4 b5 b6 b3' b4' b5' b6' c0 c3 f3
    obtain ⟨y0, y1, y2, y3⟩ := cells4 HVN.out
    have z0 := free4 HVN.out 0
    have z1 := free4 HVN.out 1
    have z2 := free4 HVN.out 2
    have z3 := free4 HVN.out 3
    have hvl3 := lt_of_block HVN.out
    go_wp2_with fail
    refine bodyPost_ret (v := (.tuple #[.agg #[.int .i64 x.v, .string x.k, .int .i64 x.s, .pointer x.p], .bool true])) (by simp [results, Tryz.results113, go_sem, y0, y1, y2, y3]) rfl ?_
    have hS3 := setR_fr w3 w.heap.size x
    rw [HVd.out, HGv.out]
    have hL : (mendL (.agg #[.int .i64 0, .string ⟨#[]⟩, .int .i64 0, .pointer none]) U.row i).length = U.row.length := by
      have := HDi.out.2.2.1
      obtain ⟨j, hj, hj0⟩ := HT1.out.inv.row_emp
      exact (mend_spec (.agg #[.int .i64 0, .string ⟨#[]⟩, .int .i64 0, .pointer none]) HFd.out.1 hj HFd.out.2.1 hj0 HT1.out.inv.prb HT1.out.inv.unq HT1.out.inv.st).1
    rw [HPd.out] at HDi ⊢
    have hlt2 : B < (setR (w1.setCell ⟨B, 3, none⟩ (.int .i64 ((U.keys : Int) - 1))) w.heap.size x).heap.size := Nat.lt_of_lt_of_le hlt1 (Nat.le_trans HS.out.size HS2.out.size)
    have hC2 : (setR (w1.setCell ⟨B, 3, none⟩ (.int .i64 ((U.keys : Int) - 1))) w.heap.size x).heap[B]? = _ := (HS2.out.block B (Nat.lt_of_lt_of_le hlt1 HS.out.size) hBN).trans (set43 (u := .int .i64 ((U.keys : Int) - 1)) HC.out)
    have hC3 : w3.heap[B]? = _ := (HF3.out.block B hlt2 (fun e => HneB.out.1 e.symm)).trans hC2
    have hT3 : TbAt w3 B gr ge1 ⟨mendL (.agg #[.int .i64 0, .string ⟨#[]⟩, .int .i64 0, .pointer none]) U.row i, U.elder, U.moved, U.keys - 1⟩ := by
      refine ⟨⟨_, _, by rw [show (((U.keys - 1 : Nat) : Int)) = (U.keys : Int) - 1 by omega]; exact hC3, ⟨capr, restr, by rw [hL], HR3.out, ?_⟩, ((HE.out.fr HS.out (fun g e e2 => HneB.out.2 (by rw [e, e2]))).fr HS2.out (fun g e e2 => HNB1.out (Or.inr (Or.inr (by rw [e, e2]))))).fr HF3.out (fun g e e2 => Hne.out (by rw [e, e2]))⟩, Hne.out, HDi.out.1.i0, HV3.out, HT1.out.eok, by rw [hL]; exact hrl⟩
      intro e
      apply hrne
      apply List.eq_nil_of_length_eq_zero
      rw [← hL]
      simp only at e
      rw [e]; rfl
    exact ⟨rfl, ⟨ge1, hT3.fr hS3 (fun b hb e => HNB1.out (e ▸ hb)), HGe.out⟩, ((HF1.out.trans2 HS.out (fun b hb e => Or.inl e)).trans2 HS2.out (fun b hb e => absurd hb (by rw [e]; exact Nat.lt_irrefl _))).trans2 HF3.out (fun b hb e => Or.inr (Or.inl e)) |>.trans2 hS3 (fun b hb e => absurd hb (by rw [e]; exact Nat.lt_irrefl _))⟩
  · have HGv := hid (get_has (.agg #[.int .i64 0, .string ⟨#[]⟩, .int .i64 0, .pointer none]) hT1.inv (Or.inr hf.ent))
    rw [hp] at HPl HPd
    simp only [if_true] at HPl HPd
    have hi := hf.1
    have hene : U.elder ≠ [] := by intro e; rw [e] at hi; simp at hi
    have hel := hT1.elen
    cases ge1 with
    | none => exact absurd he.1 hene
    | some g =>
      obtain ⟨cape, reste, rfl, hRe, _⟩ := he
      obtain ⟨⟨x, hx⟩, hks⟩ := hT1.eok i hf.1
      rw [hx] at HGv
      have hgl := hRe.lt
      have HRe := hid hRe
      have HGi := hid (fun (W : World) (hW : RowG 195 W g U.elder reste) => give_any (cap := cape) i W hW hf.1 hT1.eok hel)
      rw [hx, vl_x, hf.2.2] at HGi
      have HKp : Hid (1 ≤ U.keys) := by
        have h1 := hT1.inv.keys
        have : 0 < cnt U.elder := by
          unfold cnt
          rw [List.countP_pos_iff]
          exact ⟨U.elder[i]'hf.1, List.getElem_mem hf.1, by have := hf.2.1; rw [at_get hf.1] at this; simp [this]⟩
        show 1 ≤ U.keys
        omega
      have hkp := HKp.out
      have HFd := hid hf
      have hfv := field_val
      clear hc hRr hRe hT1 hf hp hx hks hi c2 c0
      go_wp2_with fail
      refine HPl.out.mono ?_
      rintro e w2 ⟨rfl, hw2⟩
      have hw2 := hw2.symm
      subst hw2
      go_wp2_with fail
      have hS := set_fr w1 ⟨B, 3, none⟩ (.int .i64 ((U.keys : Int) - 1))
      refine (HGi.out _ (HRe.out.fr hS (fun e => HneB.out.2 (by rw [e])))).mono ?_
      rintro e w3 ⟨rfl, hR3, hf3⟩
      have hgN : g ≠ w.heap.size := fun e => HNB1.out (Or.inr (Or.inr (by rw [e])))
      have hBN : B ≠ w.heap.size := fun e => HNB1.out (Or.inl e.symm)
      have HVN := hid ((hf3.block w.heap.size (Nat.lt_of_lt_of_le hvl hS.size) (fun e => hgN e.symm)).trans ((hS.block w.heap.size hvl (fun e => hBN e.symm)).trans HVX.out))
      have HR3 := hid hR3
      have HF3 := hid hf3
      have HS := hid hS
      clear hR3 hf3 hS v0 v1 v2 v3 z0 z1 z2 z3
      obtain ⟨y0, y1, y2, y3⟩ := cells4 HVN.out
      have z0 := free4 HVN.out 0
      have z1 := free4 HVN.out 1
      have z2 := free4 HVN.out 2
      have z3 := free4 HVN.out 3
      have hvl3 := lt_of_block HVN.out
      go_wp2_with fail
      refine bodyPost_ret (v := (.tuple #[.agg #[.int .i64 x.v, .string x.k, .int .i64 x.s, .pointer x.p], .bool true])) (by simp [results, Tryz.results113, go_sem, y0, y1, y2, y3]) rfl ?_
      have hS3 := setR_fr w3 w.heap.size x
      rw [HVd.out, HGv.out]
      have hL : (U.elder.set i (pg (.agg #[.int .i64 0, .string ⟨#[]⟩, .int .i64 0, .pointer none]))).length = U.elder.length := by simp
      rw [HPd.out] at HDi ⊢
      have hC3 : w3.heap[B]? = _ := (HF3.out.block B (Nat.lt_of_lt_of_le hlt1 HS.out.size) (fun e => HneB.out.2 (by rw [e]))).trans (set43 (u := .int .i64 ((U.keys : Int) - 1)) HC.out)
      have hT3 : TbAt w3 B gr (some g) ⟨U.row, U.elder.set i (pg (.agg #[.int .i64 0, .string ⟨#[]⟩, .int .i64 0, .pointer none])), U.moved, U.keys - 1⟩ := by
        refine ⟨⟨_, _, by rw [show (((U.keys - 1 : Nat) : Int)) = (U.keys : Int) - 1 by omega]; exact hC3, ⟨capr, restr, rfl, (HR.out.fr HS.out HneB.out.1).fr HF3.out (fun e => Hne.out (by rw [e])), hrne⟩, ⟨cape, reste, by rw [hL], HR3.out, ?_⟩⟩, Hne.out, HDi.out.1.i0, HT1.out.rok, HT1.out.eok.set i _ HFd.out.1 okP_g, hrl⟩
        intro e
        apply hene
        apply List.eq_nil_of_length_eq_zero
        rw [← hL]
        simp only at e
        rw [e]; rfl
      exact ⟨rfl, ⟨some g, hT3.fr hS3 (fun b hb e => HNB1.out (e ▸ hb)), HGe.out⟩, (HFm.out _ ((HS.out.mono (fun b _ e => Or.inl e)).trans2 HF3.out (fun b _ e => Or.inr (Or.inr (by rw [e]))))).trans2 hS3 (fun b hb e => absurd hb (by rw [e]; exact Nat.lt_irrefl _))⟩
  · have HGv := hid (get_none (.agg #[.int .i64 0, .string ⟨#[]⟩, .int .i64 0, .pointer none]) hT1.inv hn)
    rw [hp] at HPl HPd
    simp only [Bool.false_eq_true, if_false] at HPl HPd
    clear hc he hRr hT1 hp hn c0 c1 c2 c3
    go_wp2_with fail
    refine HPl.out.mono ?_
    rintro e w2 ⟨rfl, hw2⟩
    have hw2 := hw2.symm
    subst hw2
    go_wp2_with fail
    refine bodyPost_ret (v := (.tuple #[.agg #[.int .i64 0, .string ⟨#[]⟩, .int .i64 0, .pointer none], .bool false])) (by simp [results, Tryz.results113, go_sem, v0, v1, v2, v3]) rfl ?_
    rw [HVd.out, HGv.out, HPd.out]
    exact ⟨rfl, ⟨ge1, HT1.out.fr (setR_fr w1 w.heap.size rz) (fun b hb e => HNB1.out (e ▸ hb)), HGe.out⟩, HF1.out.trans2 (setR_fr w1 w.heap.size rz) (fun b hb e => absurd hb (by rw [e]; exact Nat.lt_irrefl _))⟩
end Go.Proofs.YtgbkihkefdoddaaGreatDoor.R
end
