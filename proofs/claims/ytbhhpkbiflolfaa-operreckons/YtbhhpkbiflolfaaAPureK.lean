/- Whole numbers of 64 and of 128 bits, as plain arithmetic. Nothing of the program is used here. -/
import Derived.WalkKit
import Derived.Laws.Bits64b
import Derived.Lib.Mul64
namespace Go.Proofs.Ytbhhpkbiflolfaa.A
open Go.RowKit

theorem hid {p : Prop} (h : p) : Hid p := h
/-- The upper half of a number of 128 bits in two's complement, and the lower one. -/
def hi64 (x : Int) : Int := x / 18446744073709551616
def lo64 (x : Int) : Int := x % 18446744073709551616
/-- A number fits 64 bits with a sign. -/
def fits (x : Int) : Prop := -9223372036854775808 ≤ x ∧ x ≤ 9223372036854775807
instance (x : Int) : Decidable (fits x) := by unfold fits; exact inferInstance
/-- A number lies well within 128 bits. -/
def wideIn (x : Int) : Prop := -85070591730234615865843651857942052864 < x ∧ x < 85070591730234615865843651857942052864
theorem lo64_bd (x : Int) : 0 ≤ lo64 x ∧ lo64 x ≤ 18446744073709551615 := by unfold lo64; omega
theorem hi64_bd (x : Int) (h : wideIn x) : -9223372036854775808 ≤ hi64 x ∧ hi64 x ≤ 9223372036854775807 := by
  unfold hi64; unfold wideIn at h; omega
theorem wide_ext {x y : Int} (h1 : hi64 x = hi64 y) (h2 : lo64 x = lo64 y) : x = y := by
  unfold hi64 at h1; unfold lo64 at h2; omega
theorem wide_lt (x y : Int) : x < y ↔ (hi64 x < hi64 y ∨ hi64 x = hi64 y ∧ lo64 x < lo64 y) := by
  unfold hi64 lo64; omega
theorem wrap64_fits {x : Int} (h : fits x) : wrap64 x = x := by unfold fits at h; unfold wrap64; omega
theorem wrap64_lo (x : Int) : wrap64 (lo64 x) = wrap64 x := by unfold wrap64 lo64; omega
theorem wrap64_bd (x : Int) : fits (wrap64 x) := by unfold wrap64 fits; omega
/-- A sum that does not fit comes out by 2^64 too great or too small. -/
theorem wrap64_over {x : Int} (h : 9223372036854775807 < x) (h2 : x ≤ 18446744073709551614) : wrap64 x = x - 18446744073709551616 := by unfold wrap64; omega
theorem wrap64_under {x : Int} (h : x < -9223372036854775808) (h2 : -18446744073709551616 ≤ x) : wrap64 x = x + 18446744073709551616 := by unfold wrap64; omega

/-- The product of two numbers that fit. -/
theorem mul_bd {a b : Int} (ha : fits a) (hb : fits b) : -85070591730234615865843651857942052864 ≤ a * b ∧ a * b ≤ 85070591730234615865843651857942052864 := by
  unfold fits at ha hb
  have h : (a * b).natAbs ≤ 85070591730234615865843651857942052864 := by
    rw [Int.natAbs_mul]
    have := Nat.mul_le_mul (show a.natAbs ≤ 9223372036854775808 by omega) (show b.natAbs ≤ 9223372036854775808 by omega)
    omega
  omega
theorem mul_bd2 {a b : Int} (ha : 0 ≤ a) (ha2 : a ≤ 9223372036854775805) (hb : fits b) : -85070591730234615838173535747377725440 ≤ a * b ∧ a * b ≤ 85070591730234615838173535747377725440 := by
  unfold fits at hb
  have h : (a * b).natAbs ≤ 85070591730234615838173535747377725440 := by
    rw [Int.natAbs_mul]
    have := Nat.mul_le_mul (show a.natAbs ≤ 9223372036854775805 by omega) (show b.natAbs ≤ 9223372036854775808 by omega)
    omega
  omega

/-- What stands ahead of a number's 64 bits. -/
theorem hi64_small {n : Int} (h : fits n) : hi64 n = if n < 0 then -1 else 0 := by
  unfold fits at h; unfold hi64; split <;> omega

/-- The product of the two numbers without their signs, and what it is too much. -/
theorem times_hi (a b : Int) (ha : fits a) (hb : fits b) :
    wrap64 (wrap64 (wrap64 ((lo64 a * lo64 b) / 18446744073709551616) - (if a < 0 then b else 0)) - (if b < 0 then a else 0)) = hi64 (a * b) := by
  have hbd := mul_bd ha hb
  have key : wrap64 ((lo64 a * lo64 b) / 18446744073709551616 - (if a < 0 then b else 0) - (if b < 0 then a else 0)) = hi64 (a * b) := by
    unfold fits at ha hb
    by_cases h1 : a < 0
    · have e1 : lo64 a = a + 18446744073709551616 := by unfold lo64; omega
      by_cases h2 : b < 0
      · have e2 : lo64 b = b + 18446744073709551616 := by unfold lo64; omega
        rw [e1, e2, Int.add_mul, Int.mul_add, Int.mul_add]
        generalize a * b = p at *
        rw [if_pos h1, if_pos h2]
        unfold wrap64 hi64
        omega
      · have e2 : lo64 b = b := by unfold lo64; omega
        rw [e1, e2, Int.add_mul]
        generalize a * b = p at *
        rw [if_pos h1, if_neg h2]
        unfold wrap64 hi64
        omega
    · have e1 : lo64 a = a := by unfold lo64; omega
      by_cases h2 : b < 0
      · have e2 : lo64 b = b + 18446744073709551616 := by unfold lo64; omega
        rw [e1, e2, Int.mul_add]
        generalize a * b = p at *
        rw [if_neg h1, if_pos h2]
        unfold wrap64 hi64
        omega
      · have e2 : lo64 b = b := by unfold lo64; omega
        rw [e1, e2]
        generalize a * b = p at *
        rw [if_neg h1, if_neg h2]
        unfold wrap64 hi64
        omega
  rw [← key]
  generalize (if a < 0 then b else 0) = u
  generalize (if b < 0 then a else 0) = v
  generalize (lo64 a * lo64 b) / 18446744073709551616 = q
  unfold wrap64
  omega

theorem times_lo (a b : Int) : (lo64 a * lo64 b) % 18446744073709551616 = lo64 (a * b) := by
  unfold lo64
  rw [← Int.mul_emod]

/-- A sum, half by half. -/
theorem plus_lo (x n : Int) : (lo64 x + lo64 n) % 18446744073709551616 = lo64 (x + n) := by unfold lo64; omega
theorem plus_hi (x n : Int) (hs : wideIn (x + n)) :
    wrap64 (wrap64 (hi64 x + hi64 n) + (lo64 x + lo64 n) / 18446744073709551616) = hi64 (x + n) := by
  unfold wideIn at hs
  unfold wrap64 hi64 lo64
  omega

/-- When an aggregate may be one: chapter 3's P302, by true numbers. -/
def rightB (c s lo hi : Int) : Bool :=
  if c ≤ 0 then decide (c = 0 ∧ s = 0 ∧ lo = 0 ∧ hi = 0)
  else if c = 1 then decide (s = lo ∧ s = hi)
  else decide (lo ≤ hi ∧ (c - 2) * lo + lo + hi ≤ s ∧ s ≤ (c - 2) * hi + lo + hi)

end Go.Proofs.Ytbhhpkbiflolfaa.A
