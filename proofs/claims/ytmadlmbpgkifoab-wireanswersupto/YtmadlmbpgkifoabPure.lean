/- Numbers by sevens, as lists of numbers. Nothing of the program is used here. -/
import Derived.WalkKit
namespace Go.Proofs.Ytmadlmbpgkifoab

/-- A number's bits by sevens, the lowest first; so many bytes and one at most. -/
def sev : Nat → Nat → List Nat
  | 0, u => [u]
  | f + 1, u => if 128 ≤ u then (u % 128 + 128) :: sev f (u / 128) else [u]
theorem sev_more (f u : Nat) (h : 128 ≤ u) : sev (f + 1) u = (u % 128 + 128) :: sev f (u / 128) := by simp [sev, h]
theorem sev_last (f u : Nat) (h : u < 128) : sev f u = [u] := by
  cases f with
  | zero => rfl
  | succ f => simp [sev]; omega
theorem sev_length (f u : Nat) : (sev f u).length ≤ f + 1 ∧ 1 ≤ (sev f u).length := by
  induction f generalizing u with
  | zero => simp [sev]
  | succ f ih =>
    by_cases h : 128 ≤ u
    · rw [sev_more f u h]
      have := ih (u / 128)
      simp
      omega
    · rw [sev_last _ _ (by omega)]
      simp
theorem or128 (x : Nat) (h : x < 256) : (x ||| 128) = x % 128 + 128 := by
  have : ∀ y : Fin 256, (y.val ||| 128) = y.val % 128 + 128 := by decide +kernel
  exact this ⟨x, h⟩

theorem or_byte (u : Nat) : Go.bits .or .u8 ((u : Int) % 256) 128 = ((u % 128 + 128 : Nat) : Int) := by
  have h : ∀ y : Fin 256, Go.bits .or .u8 ((y.val : Nat) : Int) 128 = ((y.val % 128 + 128 : Nat) : Int) := by decide +kernel
  have e : ((u : Int) % 256) = ((u % 256 : Nat) : Int) := by omega
  have := h ⟨u % 256, by omega⟩
  rw [e, this]
  simp only
  omega

/-- The sign in the lowest bit. -/
def zig (n : Int) : Nat := if 0 ≤ n then 2 * n.toNat else 2 * (-n).toNat - 1
theorem zig_lt (n : Int) (h0 : -9223372036854775808 ≤ n) (h1 : n ≤ 9223372036854775807) : zig n < 18446744073709551616 := by
  unfold zig
  split <;> omega
theorem xor_ones (a : Nat) (h : a < 18446744073709551616) : a ^^^ 18446744073709551615 = 18446744073709551615 - a := by
  have e := BitVec.toNat_xor (BitVec.ofNat 64 a) (BitVec.allOnes 64)
  rw [BitVec.xor_allOnes, BitVec.toNat_not] at e
  have e1 : (BitVec.ofNat 64 a).toNat = a := by simp; omega
  have e2 : (BitVec.allOnes 64).toNat = 18446744073709551615 := by decide
  rw [e1, e2] at e
  omega
theorem zig_pos (n : Int) (h0 : 0 ≤ n) (h1 : n ≤ 9223372036854775807) : Go.bits .xor .u64 (n * 2) (n / 9223372036854775808) = (zig n : Int) := by
  obtain ⟨a, rfl⟩ := Int.eq_ofNat_of_zero_le h0
  have e1 : ((a : Int) * 2) = ((a * 2 : Nat) : Int) := by omega
  have e2 : ((a : Int) / 9223372036854775808) = ((0 : Nat) : Int) := by omega
  rw [e1, e2, bits_xor_u64_nat _ _ (by omega) (by omega)]
  have e3 : zig (a : Int) = a * 2 := by unfold zig; rw [if_pos (by omega)]; omega
  rw [e3, Nat.xor_zero]
theorem zig_neg (n : Int) (h0 : -9223372036854775808 ≤ n) (h1 : n < 0) : Go.bits .xor .u64 (IntKind.u64.wrap (IntKind.u64.wrap n * 2)) (IntKind.u64.wrap (n / 9223372036854775808)) = (zig n : Int) := by
  have w64 : ∀ x : Int, IntKind.u64.wrap x = x % 18446744073709551616 := fun x => by simp [IntKind.wrap, IntKind.bits, IntKind.signed]
  obtain ⟨a, ha⟩ : ∃ a : Nat, n = -(a : Int) := ⟨(-n).toNat, by omega⟩
  have e1 : (n % 18446744073709551616 * 2) % 18446744073709551616 = ((18446744073709551616 - 2 * a : Nat) : Int) := by omega
  have e2 : (n / 9223372036854775808) % 18446744073709551616 = ((18446744073709551615 : Nat) : Int) := by omega
  rw [w64, w64, w64, e1, e2, bits_xor_u64_nat _ _ (by omega) (by omega), xor_ones _ (by omega)]
  have e3 : zig n = 2 * a - 1 := by unfold zig; rw [if_neg (by omega)]; omega
  rw [e3]
  omega

theorem wrap_u64_mod (x : Int) : IntKind.u64.wrap x = x % 18446744073709551616 := by simp [IntKind.wrap, IntKind.bits, IntKind.signed]
theorem andNot_byte (b : Nat) (h : b < 256) : Go.bits .andNot .u8 (b : Int) 128 = ((b % 128 : Nat) : Int) := by
  have : ∀ y : Fin 256, Go.bits .andNot .u8 ((y.val : Nat) : Int) 128 = ((y.val % 128 : Nat) : Int) := by decide +kernel
  exact this ⟨b, h⟩
theorem or_sevens (u c k : Nat) (hk : k ≤ 9) (hu : u < 128 ^ k) : u ||| (c * 128 ^ k % 18446744073709551616) = u + c * 128 ^ k % 18446744073709551616 := by
  have e : (128 : Nat) ^ k = 2 ^ (7 * k) := by rw [Nat.pow_mul]
  have e2 : (18446744073709551616 : Nat) = 2 ^ (64 - 7 * k) * 2 ^ (7 * k) := by
    rw [← Nat.pow_add, show 64 - 7 * k + 7 * k = 64 from by omega]
  rw [e] at hu ⊢
  rw [e2, Nat.mul_mod_mul_right, Nat.or_comm, ← Nat.shiftLeft_eq, ← Nat.shiftLeft_add_eq_or_of_lt hu]
  omega
theorem or_sevens_lt (u c k : Nat) (hk : k ≤ 9) (hu : u < 128 ^ k) : u + c * 128 ^ k % 18446744073709551616 < 18446744073709551616 := by
  rw [← or_sevens u c k hk hu]
  have h1 : u < 2 ^ 64 := Nat.lt_of_lt_of_le hu (by rw [show (128 : Nat) = 2 ^ 7 from rfl, ← Nat.pow_mul]; exact Nat.pow_le_pow_right (by decide) (by omega))
  exact Nat.or_lt_two_pow (n := 64) h1 (Nat.mod_lt _ (by decide))
theorem or_sevens_lt2 (u c k : Nat) (hc : c < 128) (hu : u < 128 ^ k) : u + c * 128 ^ k % 18446744073709551616 < 128 ^ (k + 1) := by
  have h0 : c * 128 ^ k % 18446744073709551616 ≤ c * 128 ^ k := Nat.mod_le _ _
  have h1 : c * 128 ^ k ≤ 127 * 128 ^ k := Nat.mul_le_mul_right _ (by omega)
  rw [Nat.pow_succ]
  omega
theorem seven_step (u b k : Nat) (hk : k ≤ 9) (hu : u < 128 ^ k) (hb : b < 256) :
    Go.bits .or .u64 (u : Int) (IntKind.u64.wrap (IntKind.u64.wrap (Go.bits .andNot .u8 (b : Int) 128) * 2 ^ (7 * k))) = ((u + b % 128 * 128 ^ k % 18446744073709551616 : Nat) : Int) := by
  have e : (128 : Nat) ^ k = 2 ^ (7 * k) := by rw [Nat.pow_mul]
  have e1 : IntKind.u64.wrap (Go.bits .andNot .u8 (b : Int) 128) = ((b % 128 : Nat) : Int) := by
    rw [andNot_byte b hb, wrap_u64_mod]
    omega
  have e3 : (((b % 128 : Nat) : Int) * 2 ^ (7 * k)) = ((b % 128 * 128 ^ k : Nat) : Int) := by
    rw [e, Int.natCast_mul, Int.natCast_pow]
    rfl
  have e2 : IntKind.u64.wrap (IntKind.u64.wrap (Go.bits .andNot .u8 (b : Int) 128) * 2 ^ (7 * k)) = ((b % 128 * 128 ^ k % 18446744073709551616 : Nat) : Int) := by
    rw [e1, e3, wrap_u64_mod, Int.natCast_emod]
    rfl
  have h1 : u < 18446744073709551616 := Nat.lt_of_lt_of_le hu (by rw [e]; exact Nat.le_trans (Nat.pow_le_pow_right (by decide) (show 7 * k ≤ 63 by omega)) (by decide))
  rw [e2, ← or_sevens u _ k hk hu]
  exact (bits_nat .u64 64 (by decide) (fun n h0 h1 => by rw [wrap_u64_mod]; omega) u _ h1 (Nat.mod_lt _ (by decide))).2

end Go.Proofs.Ytmadlmbpgkifoab
