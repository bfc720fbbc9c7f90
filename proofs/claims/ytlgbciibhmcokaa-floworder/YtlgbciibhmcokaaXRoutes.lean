/- FlowRoutes: the walk; the document's Hash, Operator. -/
import Derived.Test.YtlgbciibhmcokaaXKnown
namespace Go.Proofs.Ytlgbciibhmcokaa
open Go.RowKit

set_option maxRecDepth 100000 in
theorem rhash_any (k : ByteArray) (w : World) (hk : k.size ≤ 9223372036854775807) : Calls Try.prog 33 #[.string k] w fun e w' => e = .returned (.int .u64 (hashL k : Int)) ∧ w' = w := by
  go_enter Try.func33, Try.ntmps33
  go_wp2_with fail
  go_loopg [3, 4] k.size (fun g s3 s4 wx => ∃ i : Nat, s3 = .int .u64 (hashN k i : Int) ∧ s4 = .int .i64 (i : Int) ∧ i + g = k.size ∧ wx = w)
  case atStart => exact ⟨0, rfl, rfl, by omega, rfl⟩
  case round =>
    obtain ⟨i, rfl, rfl, hg, rfl⟩ := hrel
    cases gk with
    | zero =>
      have t1 : ¬ (i : Int) < (k.size : Int) := by omega
      have HE := hid (show i = k.size by omega)
      clear hg
      go_wp2_with fail
      go_ret
      exact ⟨by rw [HE.out]; rfl, rfl⟩
    | succ g =>
      have t1 : (i : Int) < (k.size : Int) := by omega
      have t0 : (0 : Int) ≤ (i : Int) := by omega
      have HG := hid hg
      have hi : i < k.size := by omega
      have HI := hid hi
      clear hg
      go_wp2_with fail
      go_roundg g
      case measure => omega
      case rel =>
        refine ⟨i + 1, ?_, by go_num, by have := HG.out; omega, rfl⟩
        rw [← hashN_step k i, byte_step k i HI.out]
set_option maxHeartbeats 1000000 in
theorem roperator_any (k : ByteArray) {n : Nat} (w : World) (hk : k.size ≤ 9223372036854775807) (h1 : 0 < n) (h8 : n ≤ 8) : Calls Try.prog 14 #[.string k, .int .i64 (n : Int)] w fun e w' => e = .returned (.int .i64 (rtF n k : Int)) ∧ w' = w := by
  have HH := hid (fun W => rhash_any k W hk)
  obtain ⟨k1, k2, k3⟩ := rt_run n (sprd k) h1 (by omega)
  have e : IntKind.u64.wrap ((hashL k : Int) * 11400714819323198485) / 4294967296 = ((sprd k : Nat) : Int) := by
    unfold sprd
    rw [IntKind.wrap_u64]
    omega
  unfold rtF
  go_enter Try.func14, Try.ntmps14
  go_wp2_with fail
  refine (HH.out _).mono ?_
  rintro e w1 ⟨rfl, h9⟩
  obtain rfl : w = w1 := h9.symm
  go_wp2_with fail
  go_ret
  refine ⟨?_, rfl⟩
  have HW : wrap64 ((sprd k : Int) % (n : Int)) = ((sprd k % n : Nat) : Int) := by
    have h5 := Nat.mod_lt (sprd k) h1
    have h6 : ((sprd k : Int) % (n : Int)) = ((sprd k % n : Nat) : Int) := rfl
    rw [h6]
    generalize sprd k % n = r at *
    unfold wrap64
    omega
  exact congrArg (fun x => Ending.returned (.int .i64 x)) HW
set_option maxHeartbeats 2000000 in
theorem routes_walk {w : World} (ops : Int) (key : ByteArray) : Calls Try.prog 4 #[.int .i64 ops, .string key] w fun e w' => e = .returned (.bool true) ∧ Fr w w' (fun _ => False) := by
  by_cases ho : 1 ≤ ops ∧ ops ≤ 8
  case neg =>
    have HB := hid (fun W => fnew_bad (ns := 1) (no := ops) (box := 1) W (fun h => ho h.2.1))
    have hc : ops < 1 ∨ (¬ ops < 1 ∧ 8 < ops) := by omega
    clear ho
    rcases hc with u1 | ⟨u1, u2⟩
    all_goals
      go_enter Try.func4, Try.ntmps4
      go_wp2_with fail
      refine (known_any _).mono ?_
      rintro e w1 ⟨rfl, hf⟩
      have HF := hid hf
      clear hf
      go_wp2_with fail
      refine (HB.out _).mono ?_
      rintro e w2 ⟨rfl, hf⟩
      have HF2 := hid (HF.out.trans hf)
      clear hf
      go_wp2_with fail
      go_ret
      exact ⟨rfl, HF2.out⟩
  case pos =>
    obtain ⟨n, rfl⟩ : ∃ n : Nat, ops = (n : Int) := ⟨ops.toNat, by omega⟩
    have HN := hid (fun (W : World) (hW : Fr w W (fun _ => False)) => fnew_i (w0 := w) (ns := 1) (no := n) (box := 1) W (by omega) (by omega) (by omega) hW)
    have v1 : ¬ (n : Int) < 1 := by omega
    have v2 : ¬ (8 : Int) < (n : Int) := by omega
    have hn0 : 0 < n := by omega
    have hn8 : n ≤ 8 := by omega
    clear ho
    by_cases hk : 1048576 < key.size
    · have u1 : (1048576 : Int) < (key.size : Int) := by omega
      clear hk
      go_enter Try.func4, Try.ntmps4
      go_wp2_with fail
      refine (known_any _).mono ?_
      rintro e w1 ⟨rfl, hf⟩
      have HF := hid hf
      clear hf
      go_wp2_with fail
      refine (HN.out _ HF.out).mono ?_
      rintro e w2 ⟨B, rfl, O, hO, _, _⟩
      have HO := hid hO
      clear hO
      go_wp2_with fail
      go_ret
      exact ⟨rfl, HO.out.fr⟩
    · have u1 : ¬ (1048576 : Int) < (key.size : Int) := by omega
      have HR := hid (fun (W : World) (B : Nat) (h : FlI w W B 1 (newP 1 n)) => h.route key (by omega))
      have hl : (newP 1 n).b.length = n := by simp [newP]
      rw [hl] at HR
      have HO2 := hid (fun W => roperator_any key (n := n) W (by omega) hn0 hn8)
      clear hk hl
      generalize rtF n key = r at *
      go_enter Try.func4, Try.ntmps4
      go_wp2_with fail
      refine (known_any _).mono ?_
      rintro e w1 ⟨rfl, hf⟩
      have HF := hid hf
      clear hf
      go_wp2_with fail
      refine (HN.out _ HF.out).mono ?_
      rintro e w2 ⟨B, rfl, O, hO, _, _⟩
      have HO : Hid (FlI w w2 B 1 (newP 1 n)) := ⟨O, hO⟩
      clear hO
      go_wp2_with fail
      refine (HR.out _ _ HO.out).mono ?_
      rintro e w3 ⟨rfl, h3⟩
      have H3 := hid h3
      clear h3
      go_wp2_with fail
      refine (HO2.out _).mono ?_
      rintro e w4 ⟨rfl, h9⟩
      obtain rfl : w3 = w4 := h9.symm
      clear h9
      go_wp2_with fail
      go_ret
      exact ⟨by first | rfl | simp, H3.out.fr⟩
end Go.Proofs.Ytlgbciibhmcokaa
