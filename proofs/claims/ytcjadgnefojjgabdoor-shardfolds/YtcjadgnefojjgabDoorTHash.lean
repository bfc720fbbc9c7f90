/- table: Hash: a walk. -/
import Derived.Test.YtcjadgnefojjgabDoorTBase
namespace Go.Proofs.YtcjadgnefojjgabDoor
open Go.RowKit

theorem key_ne {a b : ByteArray} (h : a ≠ b) : (a.toList == b.toList) = false := by
  rw [beq_eq_false_iff_ne]
  intro e
  rw [ByteArray.toList_eq, ByteArray.toList_eq] at e
  apply h
  exact ByteArray.ext (Array.toList_inj.1 e)
theorem hashN_lt (s : ByteArray) : ∀ n, hashN s n < 18446744073709551616
  | 0 => by show 14695981039346656037 < 18446744073709551616; decide
  | n + 1 => Nat.mod_lt _ (by decide)
theorem hashN_step (s : ByteArray) (n : Nat) : IntKind.u64.wrap (Go.bits .xor .u64 (hashN s n : Int) (((s.data.getD n 0).toNat : Nat) : Int) * 1099511628211) = (hashN s (n + 1) : Int) := by
  have hb : (s.data.getD n 0).toNat < 18446744073709551616 := Nat.lt_of_lt_of_le (UInt8.toNat_lt _) (by decide)
  rw [bits_xor_u64_nat _ _ (hashN_lt s n) hb]
  have : hashN s (n + 1) = ((hashN s n ^^^ (s.data.getD n 0).toNat) * 1099511628211) % 18446744073709551616 := rfl
  rw [this, IntKind.wrap_u64]
  omega

set_option maxRecDepth 100000 in
theorem hash_any (k : ByteArray) (w : World) (hk : k.size ≤ 9223372036854775807) : Calls Tryd.prog 77 #[.string k] w fun e w' => e = .returned (.int .u64 (hashL k : Int)) ∧ w' = w := by
  go_enter Tryd.func77, Tryd.ntmps77
  go_wp2_with fail
  go_loopg [3, 7] k.size (fun g s3 s7 wx => ∃ i : Nat, s3 = .int .u64 (hashN k i : Int) ∧ s7 = .int .i64 (i : Int) ∧ i + g = k.size ∧ wx = w)
  case atStart => exact ⟨0, rfl, rfl, by omega, rfl⟩
  case round =>
    obtain ⟨i, rfl, rfl, hg, rfl⟩ := hrel
    cases gk with
    | zero =>
      have t1 : ¬ (i : Int) < (k.size : Int) := by omega
      have HE := hid (show i = k.size by omega)
      clear hg
      go_wp2_with fail
      go_ret
      exact ⟨by rw [HE.out]; rfl, rfl⟩
    | succ g =>
      have t1 : (i : Int) < (k.size : Int) := by omega
      have t0 : (0 : Int) ≤ (i : Int) := by omega
      have HG := hid hg
      have hi : i < k.size := by omega
      have HI := hid hi
      clear hg
      go_wp2_with fail
      go_roundg g
      case measure => omega
      case rel =>
        refine ⟨i + 1, ?_, by go_num, by have := HG.out; omega, rfl⟩
        rw [← hashN_step k i]
        have e1 : (k[i]'HI.out).toNat = (k.data.getD i 0).toNat := by
          have h2 : i < k.data.size := HI.out
          simp only [Array.getD_eq_getD_getElem?, Array.getElem?_eq_getElem h2]
          rfl
        have e2 : ((k.data.getD i 0).toNat : Int) < 256 := by have := UInt8.toNat_lt (k.data.getD i 0); omega
        rw [e1, show IntKind.u64.wrap (((k.data.getD i 0).toNat : Nat) : Int) = (((k.data.getD i 0).toNat : Nat) : Int) from by rw [IntKind.wrap_u64]; omega]
end Go.Proofs.YtcjadgnefojjgabDoor
