/- agg's numbers of 128 bits (sign, widen, times, plus, below), math/bits.Mul64 and Add64: walks. -/
import Derived.Test.YtgbkihkefdoddaaGreatDoorJoin17
import Derived.Test.YtgbkihkefdoddaaGreatDoorRows
import Derived.Test.YtgbkihkefdoddaaGreatDoorJoin2
import Derived.WalkKit
import Derived.Shelf.Bits.Mul64
import Derived.Laws.Externs
import Derived.Deep.RegionWith
namespace Go.Proofs.YtgbkihkefdoddaaGreatDoor.A
open Go.RowKit

theorem sign_bits (n : Int) (h : fits n) : n / 9223372036854775808 = hi64 n := by unfold fits at h; unfold hi64; omega
theorem sign_any (n : Int) (h : fits n) (w : World) : Calls Tryz.prog 172 #[.int .i64 n] w fun e w' => e = .returned (.int .i64 (hi64 n)) ∧ w' = w := by
  have hs := sign_bits n h
  have HS := hid hs
  clear hs
  go_enter Tryz.func172, Tryz.ntmps172
  go_wp2
  rw [HS.out]
  go_ret
  exact ⟨rfl, rfl⟩

set_option maxHeartbeats 1000000 in
theorem mul64_any (x y : Nat) (hx : x < 18446744073709551616) (hy : y < 18446744073709551616) (w : World) :
    Calls Tryz.prog 171 #[.int .u64 x, .int .u64 y] w fun e w' => e = .returned (.tuple #[.int .u64 ((x * y / 18446744073709551616 : Nat) : Int), .int .u64 ((x * y % 18446744073709551616 : Nat) : Int)]) ∧ w' = w := by
  obtain ⟨bd, bt, bw, hhi⟩ := Lib.mul64_hi x y hx hy
  have ba := Lib.half_mul_le (a := x / 4294967296) (b := y / 4294967296) (by omega) (by omega)
  have bb := Lib.half_mul_le (a := x / 4294967296) (b := y % 4294967296) (by omega) (by omega)
  have bc := Lib.half_mul_le (a := x % 4294967296) (b := y / 4294967296) (by omega) (by omega)
  have ba' : x / 4294967296 * (y / 4294967296) < 18446744073709551616 := by omega
  have bb' : x / 4294967296 * (y % 4294967296) < 18446744073709551616 := by omega
  have bc' : x % 4294967296 * (y / 4294967296) < 18446744073709551616 := by omega
  have bh1 : x / 4294967296 * (y / 4294967296) + (x / 4294967296 * (y % 4294967296) + x % 4294967296 * (y % 4294967296) / 4294967296) / 4294967296 < 18446744073709551616 := by omega
  have bh : x / 4294967296 * (y / 4294967296) + (x / 4294967296 * (y % 4294967296) + x % 4294967296 * (y % 4294967296) / 4294967296) / 4294967296 + ((x / 4294967296 * (y % 4294967296) + x % 4294967296 * (y % 4294967296) / 4294967296) % 4294967296 + x % 4294967296 * (y / 4294967296)) / 4294967296 < 18446744073709551616 := by omega
  go_enter Tryz.func171, Tryz.ntmps171
  go_wp2
  simp only [Mul64.maskN x hx, Mul64.maskN y hy, Mul64.divN, Mul64.mulN, Mul64.addN, Mul64.wrapN _ bd, Mul64.wrapN _ bb', Mul64.wrapN _ bt, Mul64.maskN _ bt, Mul64.wrapN _ bc', Mul64.wrapN _ bw, Mul64.wrapN _ ba', Mul64.wrapN _ bh1, Mul64.wrapN _ bh, Mul64.wrapM (x * y)]
  rw [hhi]
  go_ret2
  exact ⟨rfl, rfl⟩

/-- The product of two words, half by half, under names. -/
def mulHi (x y : Int) : Int := x * y / 18446744073709551616
def mulLo (x y : Int) : Int := x * y % 18446744073709551616
theorem mul64_int (x y : Int) (hx : 0 ≤ x) (hx2 : x ≤ 18446744073709551615) (hy : 0 ≤ y) (hy2 : y ≤ 18446744073709551615) (w : World) :
    Calls Tryz.prog 171 #[.int .u64 x, .int .u64 y] w fun e w' => e = .returned (.tuple #[.int .u64 (mulHi x y), .int .u64 (mulLo x y)]) ∧ w' = w := by
  obtain ⟨x, rfl⟩ := Int.eq_ofNat_of_zero_le hx
  obtain ⟨y, rfl⟩ := Int.eq_ofNat_of_zero_le hy
  have h := mul64_any x y (by omega) (by omega) w
  have e1 : mulHi x y = ((x * y / 18446744073709551616 : Nat) : Int) := by unfold mulHi; rw [Int.natCast_ediv, Int.natCast_mul]; rfl
  have e2 : mulLo x y = ((x * y % 18446744073709551616 : Nat) : Int) := by unfold mulLo; rw [Int.natCast_emod, Int.natCast_mul]; rfl
  rw [e1, e2]
  exact h

theorem add64_0 (x y : Int) (hx : 0 ≤ x) (hy : 0 ≤ y) (w : World) : (callFunc 173 #[.int .u64 x, .int .u64 y, .int .u64 0]).run Tryz.prog w =
    .ok (.value (.tuple #[.int .u64 ((x + y) % 18446744073709551616), .int .u64 ((x + y) / 18446744073709551616)])) w := by
  rw [run_callFunc_extern Tryz.func173 (by kernel_rfl) (by kernel_rfl) (by kernel_rfl) (e := add64Entry) (by kernel_rfl), run_add64 x y 0 hx hy (by omega) (by omega)]
  simp only [Result.andThen, Int.add_zero]

/-- A number of 128 bits as the program's wide. -/
def wideV (x : Int) : Value := .agg #[.int .i64 (hi64 x), .int .u64 (lo64 x)]

theorem conv_lo (n : Int) : IntKind.u64.wrap n = lo64 n := by rw [IntKind.wrap_u64]; rfl

theorem widen_any (n : Int) (h : fits n) (w : World) : Calls Tryz.prog 149 #[.int .i64 n] w fun e w' => e = .returned (wideV n) ∧ Fr w w' (fun _ => False) := by
  have hl := conv_lo n
  go_enter Tryz.func149, Tryz.ntmps149
  go_wp2_with (go_at_call 172; refine (sign_any n h _).mono ?_; rintro e w' ⟨rfl, rfl⟩)
  refine bodyPost_ret (v := wideV n) (by simp [results, Tryz.results149, go_sem, wideV]) rfl ⟨rfl, ?_⟩
  exact (alloc_fr _ _ _)

def signAnd (a b : Int) : Int := if a < 0 then b else 0
theorem and_ones (b : Int) (h : fits b) : bits .and .i64 (-1) b = b := by
  have e : BitVec.ofInt 64 (-1) = BitVec.allOnes 64 := by decide
  show IntKind.i64.wrap (((BitVec.ofInt 64 (-1)) &&& BitVec.ofInt 64 b).toNat : Nat) = b
  rw [e, BitVec.allOnes_and, BitVec.toNat_ofInt, IntKind.wrap_i64]
  unfold fits at h
  omega
theorem and_zero (b : Int) : bits .and .i64 0 b = 0 := by
  show IntKind.i64.wrap (((BitVec.ofInt 64 0) &&& BitVec.ofInt 64 b).toNat : Nat) = 0
  rw [show BitVec.ofInt 64 0 = 0#64 from by decide, BitVec.zero_and]
  decide
theorem and_sign (a b : Int) (ha : fits a) (hb : fits b) : bits .and .i64 (hi64 a) b = signAnd a b := by
  rw [hi64_small ha]
  unfold signAnd
  split
  · exact and_ones b hb
  · exact and_zero b
theorem times_hi' (a b : Int) (ha : fits a) (hb : fits b) : wrap64 (wrap64 (wrap64 (mulHi (lo64 a) (lo64 b)) - signAnd a b) - signAnd b a) = hi64 (a * b) := times_hi a b ha hb
theorem times_lo' (a b : Int) : mulLo (lo64 a) (lo64 b) = lo64 (a * b) := times_lo a b

set_option maxRecDepth 100000 in
theorem times_any (a b : Int) (ha : fits a) (hb : fits b) (w : World) : Calls Tryz.prog 147 #[.int .i64 a, .int .i64 b] w fun e w' => e = .returned (wideV (a * b)) ∧ Fr w w' (fun _ => False) := by
  have hl := conv_lo a
  have hl2 := conv_lo b
  have b1 := lo64_bd a
  have b2 := lo64_bd b
  have e1 := and_sign a b ha hb
  have e2 := and_sign b a hb ha
  obtain ⟨b11, b12⟩ := b1
  obtain ⟨b21, b22⟩ := b2
  go_enter Tryz.func147, Tryz.ntmps147
  go_wp2_with (first | (go_at_call 171; refine (mul64_int (lo64 a) (lo64 b) b11 b12 b21 b22 _).mono ?_; rintro e w' ⟨rfl, rfl⟩) | (go_at_call 172; first | (refine (sign_any a ha _).mono ?_; rintro e w' ⟨rfl, rfl⟩) | (refine (sign_any b hb _).mono ?_; rintro e w' ⟨rfl, rfl⟩)))
  rw [times_hi' a b ha hb, times_lo']
  exact bodyPost_ret (v := wideV (a * b)) (by simp [results, Tryz.results147, go_sem, wideV]) rfl ⟨rfl, alloc_fr _ _ _⟩

theorem plus_hi' (x n : Int) (hs : wideIn (x + n)) : IntKind.i64.wrap (IntKind.i64.wrap (hi64 x + hi64 n) + IntKind.i64.wrap ((lo64 x + lo64 n) / 18446744073709551616)) = hi64 (x + n) := by
  rw [← plus_hi x n hs]
  have := lo64_bd x
  have := lo64_bd n
  simp only [IntKind.wrap_i64]
  unfold wrap64
  omega
set_option maxHeartbeats 400000 in
theorem plus_any (x n : Int) (hn : fits n) (hs : wideIn (x + n)) (w : World) : Calls Tryz.prog 148 #[wideV x, .int .i64 n] w fun e w' => e = .returned (wideV (x + n)) ∧ Fr w w' (fun _ => False) := by
  have hl := conv_lo n
  have b1 := (lo64_bd x).1
  have b2 := (lo64_bd n).1
  have b3 : (lo64 x + lo64 n) / 18446744073709551616 ≤ 1 := by have := lo64_bd x; have := lo64_bd n; omega
  have b4 : 0 ≤ (lo64 x + lo64 n) / 18446744073709551616 := by omega
  unfold wideV
  go_enter Tryz.func148, Tryz.ntmps148
  go_wp2_with (simp only [add64_0 (lo64 x) (lo64 n) b1 b2])
  go_region_with (go_at_call 172; refine (sign_any n hn _).mono ?_; rintro e w' ⟨rfl, rfl⟩)
  all_goals (rw [plus_hi' x n hs, plus_lo])
  all_goals go_wp2
  all_goals exact bodyPost_ret (v := wideV (x + n)) (by simp [results, Tryz.results148, go_sem, wideV]) rfl ⟨rfl, ((alloc_fr _ _ _).alloc _).drew⟩
theorem below_any (x y : Int) (w : World) : Calls Tryz.prog 150 #[wideV x, wideV y] w fun e w' => e = .returned (.bool (decide (x < y))) ∧ Fr w w' (fun _ => False) := by
  unfold wideV
  have hh := wide_lt x y
  by_cases h1 : hi64 x = hi64 y
  · have e : decide (x < y) = decide (lo64 x < lo64 y) := by rw [decide_eq_decide, hh]; simp [h1]
    rw [e]
    clear e hh
    rw [h1]
    go_enter Tryz.func150, Tryz.ntmps150
    go_wp2
    go_ret
    exact ⟨rfl, (alloc_fr _ _ _).alloc _⟩
  · have e : decide (x < y) = decide (hi64 x < hi64 y) := by rw [decide_eq_decide, hh]; simp [h1]
    rw [e]
    clear e hh
    go_enter Tryz.func150, Tryz.ntmps150
    go_wp2
    go_ret
    exact ⟨rfl, (alloc_fr _ _ _).alloc _⟩

structure Ag where
  c : Int
  s : Int
  lo : Int
  hi : Int
def Ag.zero : Ag := ⟨0, 0, 0, 0⟩
def Ag.ok (a : Ag) : Prop := fits a.c ∧ fits a.s ∧ fits a.lo ∧ fits a.hi
def Ag.v (a : Ag) : Value := .agg #[.int .i64 a.c, .int .i64 a.s, .int .i64 a.lo, .int .i64 a.hi]
theorem fr_rules {a w' : World} (h : Fr a w' (fun _ => False)) : (∀ b o, b < a.heap.size → w'.cell? ⟨b, o, none⟩ = a.cell? ⟨b, o, none⟩) ∧ (∀ b o, b < a.heap.size → w'.frozen? ⟨b, o, none⟩ = a.frozen? ⟨b, o, none⟩) := by
  have hb : Below a.heap.size a w' := h.below (Nat.le_refl _) (fun _ h => h.elim)
  exact ⟨fun b o h => hb.cell (p := ⟨b, o, none⟩) h, fun b o h => hb.frozen (p := ⟨b, o, none⟩) h⟩
theorem heap_last (w : World) (o : Obj) (k : Nat) (h : w.heap.size = k) : (w.alloc o).heap[k]? = some o := by subst h; exact heap_alloc_new w o
theorem fr_set4 {w w1 : World} {B : Nat} (h : Fr w w1 (fun _ => False)) (hB : w.heap.size ≤ B) (u0 u1 u2 u3 : Value) : Fr w ((((w1.setCell ⟨B, 0, none⟩ u0).setCell ⟨B, 1, none⟩ u1).setCell ⟨B, 2, none⟩ u2).setCell ⟨B, 3, none⟩ u3) (fun _ => False) :=
  (((h.setCell (fun h => by simp at h; omega) _).setCell (fun h => by simp at h; omega) _).setCell (fun h => by simp at h; omega) _).setCell (fun h => by simp at h; omega) _
theorem heap_set4 {w1 : World} {B b : Nat} (hB : b ≠ B) (u0 u1 u2 u3 : Value) : ((((w1.setCell ⟨B, 0, none⟩ u0).setCell ⟨B, 1, none⟩ u1).setCell ⟨B, 2, none⟩ u2).setCell ⟨B, 3, none⟩ u3).heap[b]? = w1.heap[b]? := by
  rw [Below.heap_setCell _ _ _ _ (by simpa using hB), Below.heap_setCell _ _ _ _ (by simpa using hB), Below.heap_setCell _ _ _ _ (by simpa using hB), Below.heap_setCell _ _ _ _ (by simpa using hB)]

def AgAt (w : World) (B : Nat) (a : Ag) : Prop := w.heap[B]? = some (.cells #[.int .i64 a.c, .int .i64 a.s, .int .i64 a.lo, .int .i64 a.hi] 35 (0, 0))
theorem AgAt.cells {w : World} {B : Nat} {a : Ag} (h : AgAt w B a) : w.cell? ⟨B, 0, none⟩ = some (.int .i64 a.c) ∧ w.cell? ⟨B, 1, none⟩ = some (.int .i64 a.s) ∧ w.cell? ⟨B, 2, none⟩ = some (.int .i64 a.lo) ∧ w.cell? ⟨B, 3, none⟩ = some (.int .i64 a.hi) ∧ ∀ o, w.frozen? ⟨B, o, none⟩ = false := by
  have h' : w.heap[B]? = some (.cells #[.int .i64 a.c, .int .i64 a.s, .int .i64 a.lo, .int .i64 a.hi] 35 (0, 0)) := h
  refine ⟨?_, ?_, ?_, ?_, fun o => ?_⟩
  · simp [World.cell?, h']
  · simp [World.cell?, h']
  · simp [World.cell?, h']
  · simp [World.cell?, h']
  · simp [World.frozen?, h']
theorem AgAt.lt {w : World} {B : Nat} {a : Ag} (h : AgAt w B a) : B < w.heap.size := lt_of_block h
theorem AgAt.fr {w w' : World} {S : Nat → Prop} {B : Nat} {a : Ag} (h : AgAt w B a) (hf : Fr w w' S) (hS : ¬ S B) : AgAt w' B a := by
  unfold AgAt
  rw [hf.block B h.lt hS]
  exact h
theorem AgAt.set {w : World} {B : Nat} {a : Ag} (h : AgAt w B a) (b : Ag) : AgAt ((((w.setCell ⟨B, 0, none⟩ (.int .i64 b.c)).setCell ⟨B, 1, none⟩ (.int .i64 b.s)).setCell ⟨B, 2, none⟩ (.int .i64 b.lo)).setCell ⟨B, 3, none⟩ (.int .i64 b.hi)) B b := by
  unfold AgAt
  rw [heap_setCell_same _ B 3 _ _ _ (heap_setCell_same _ B 2 _ _ _ (heap_setCell_same _ B 1 _ _ _ (heap_setCell_same w B 0 _ _ _ h)))]
  simp

theorem fr_set4' (w : World) (B : Nat) (u0 u1 u2 u3 : Value) : Fr w ((((w.setCell ⟨B, 0, none⟩ u0).setCell ⟨B, 1, none⟩ u1).setCell ⟨B, 2, none⟩ u2).setCell ⟨B, 3, none⟩ u3) (fun k => k = B) := by
  have h0 : Fr w w (fun k => k = B) := Fr.refl w _
  have h1 := h0.setCell (p := ⟨B, 0, none⟩) (fun _ => rfl) u0
  have h2 := h1.setCell (p := ⟨B, 1, none⟩) (fun _ => rfl) u1
  have h3 := h2.setCell (p := ⟨B, 2, none⟩) (fun _ => rfl) u2
  exact h3.setCell (p := ⟨B, 3, none⟩) (fun _ => rfl) u3
end Go.Proofs.YtgbkihkefdoddaaGreatDoor.A
