/- The document's table: Hash, home, find: walks. -/
import Derived.Test.YtobigmcklecbnaaRBase
namespace Go.Proofs.Ytobigmcklecbnaa
open Go.RowKit

set_option maxRecDepth 100000 in
theorem rhash_any (k : ByteArray) (w : World) (hk : k.size ≤ 9223372036854775807) : Calls Try.prog 16 #[.string k] w fun e w' => e = .returned (.int .u64 (hashL k : Int)) ∧ w' = w := by
  go_enter Try.func16, Try.ntmps16
  go_wp2_with fail
  go_loopg [3, 4] k.size (fun g s3 s4 wx => ∃ i : Nat, s3 = .int .u64 (hashN k i : Int) ∧ s4 = .int .i64 (i : Int) ∧ i + g = k.size ∧ wx = w)
  case atStart => exact ⟨0, rfl, rfl, by omega, rfl⟩
  case round =>
    obtain ⟨i, rfl, rfl, hg, rfl⟩ := hrel
    cases gk with
    | zero =>
      have t1 : ¬ (i : Int) < (k.size : Int) := by omega
      have HE := hid (show i = k.size by omega)
      clear hg
      go_wp2_with fail
      go_ret
      exact ⟨by rw [HE.out]; rfl, rfl⟩
    | succ g =>
      have t1 : (i : Int) < (k.size : Int) := by omega
      have t0 : (0 : Int) ≤ (i : Int) := by omega
      have HG := hid hg
      have hi : i < k.size := by omega
      have HI := hid hi
      clear hg
      go_wp2_with fail
      go_roundg g
      case measure => omega
      case rel =>
        refine ⟨i + 1, ?_, by go_num, by have := HG.out; omega, rfl⟩
        rw [← hashN_step k i]
        have e1 : (k[i]'HI.out).toNat = (k.data.getD i 0).toNat := by
          have h2 : i < k.data.size := HI.out
          simp only [Array.getD_eq_getD_getElem?, Array.getElem?_eq_getElem h2]
          rfl
        have e2 : ((k.data.getD i 0).toNat : Int) < 256 := by have := UInt8.toNat_lt (k.data.getD i 0); omega
        rw [e1, show IntKind.u64.wrap (((k.data.getD i 0).toNat : Nat) : Int) = (((k.data.getD i 0).toNat : Nat) : Int) from by rw [IntKind.wrap_u64]; omega]

set_option maxRecDepth 100000 in
theorem rhome_any (g cap : Nat) (r : List Pl) (k : ByteArray) (w : World) (hk : k.size ≤ 9223372036854775807) (hn : 0 < r.length) (hb : r.length ≤ 1099511627776) :
    Calls Try.prog 76 #[.slice (some ⟨g, 0, none⟩) r.length cap, .string k] w fun e w' => e = .returned (.int .i64 (homeL r k : Int)) ∧ w' = w := by
  have t1 : ((r.length : Int) == 0) = false := by simp; rintro rfl; simp at hn
  have HH := hid (rhash_any k w hk)
  have hl : homeL r k < r.length := homeL_lt k hn
  have HL := hid (show (hashL k : Int) % (r.length : Int) = (homeL r k : Int) from rfl)
  have h2 : (hashL k : Int) < 18446744073709551616 := by have := hashN_lt k k.size; unfold hashL; omega
  have h3 : (0 : Int) ≤ (hashL k : Int) := by omega
  go_enter Try.func76, Try.ntmps76
  go_wp2_with fail
  refine HH.out.mono ?_
  rintro e w1 ⟨rfl, hw1⟩
  have hw1 := hw1.symm
  subst hw1
  go_wp2_with fail
  go_ret
  refine ⟨congrArg (fun x => Ending.returned (.int .i64 x)) ?_, rfl⟩
  rw [HL.out]
  unfold wrap64
  omega

theorem bt0 {x : Pl} (h : x.st = 0) : bt x = .bool false ∧ bg x = .bool false := by unfold bt bg; rw [h]; exact ⟨rfl, rfl⟩
theorem bt1 {x : Pl} (h : x.st = 1) : bt x = .bool true ∧ bg x = .bool false := by unfold bt bg; rw [h]; exact ⟨rfl, rfl⟩
theorem bt2 {x : Pl} (h0 : x.st ≠ 0) (h1 : x.st ≠ 1) : bt x = .bool false ∧ bg x = .bool true := by
  unfold bt bg
  rw [show (x.st == 1) = false by simp; exact h1, show decide (1 < x.st) = true by simp; omega]
  exact ⟨rfl, rfl⟩

set_option maxHeartbeats 1000000 in
set_option maxRecDepth 100000 in
theorem rfind_any {g cap : Nat} {r : List Pl} {rest : List Value} (k : ByteArray) (w : World) (hR : RowH w g r rest) (hE : Emp r) (hk : k.size ≤ 9223372036854775807) (hb : r.length ≤ 1099511627776) :
    Calls Try.prog 72 #[.slice (some ⟨g, 0, none⟩) r.length cap, .string k] w fun e w' => e = .returned (.tuple #[.int .i64 ((lookL r k).1 : Int), .bool (lookL r k).2]) ∧ w' = w := by
  obtain ⟨j, hj, hj0⟩ := hE
  have hn : 0 < r.length := by omega
  have HH := hid (rhome_any g cap r k w hk hn hb)
  have hh := homeL_lt k hn
  have HD := hid (ds_lt hh hj)
  have HR := hid hR
  have HJ := hid hj
  have HJ0 := hid hj0
  have HS : Hid (lookF r k r.length (homeL r k) = lookL r k) := by
    unfold Hid lookL
    rw [if_neg (by omega)]
  have hgl := hR.lt
  have tn : ((r.length : Int) == 0) = false := by simp; rintro rfl; simp at hn
  clear hR hj hj0
  go_enter Try.func72, Try.ntmps72
  go_wp2_with fail
  refine HH.out.mono ?_
  rintro e w1 ⟨rfl, hw1⟩
  have hw1 := hw1.symm
  subst hw1
  go_wp2_with fail
  go_loopg [6] r.length (fun gk s6 wx => ∃ i : Nat, s6 = .int .i64 (i : Int) ∧ i < r.length ∧ Hid (lookF r k gk i = lookL r k) ∧ Hid (ds r.length i j < gk) ∧ wx = w)
  case atStart => exact ⟨homeL r k, rfl, hh, HS, HD, rfl⟩
  case round =>
    obtain ⟨i, rfl, hi, HLk, HDs, rfl⟩ := hrel
    clear HS HD HH
    have t0 : (0 : Int) ≤ (i : Int) := by omega
    have t1 : (i : Int) < (r.length : Int) := by omega
    have HI := hid hi
    have HNx := hid (show ((i : Int) + 1) % (r.length : Int) = (nx r.length i : Int) from by
      rw [← nx_mod hi]; rfl)
    obtain ⟨c0, c1, c2, c3⟩ := HR.out.cells i hi
    clear c3
    cases gk with
    | zero => exact absurd HDs.out (Nat.not_lt_zero _)
    | succ f =>
      by_cases h0 : (at' r i).st = 0
      · have HF : Hid (lookL r k = (i, false)) := by
          have := HLk.out
          unfold lookF at this
          rw [if_pos h0] at this
          exact this.symm
        rw [(bt0 h0).1] at c0
        rw [(bt0 h0).2] at c1
        clear h0 c2
        go_wp2_with fail
        go_ret2
        rw [HF.out]
        exact ⟨rfl, rfl⟩
      · by_cases h1 : (at' r i).st = 1
        · rw [(bt1 h1).1] at c0
          rw [(bt1 h1).2] at c1
          by_cases h2 : (at' r i).key = k
          · rw [h2] at c2
            have HF : Hid (lookL r k = (i, true)) := by
              have := HLk.out
              unfold lookF at this
              rw [if_neg h0, if_pos ⟨h1, h2⟩] at this
              exact this.symm
            clear h0 h1 h2
            go_wp2_with fail
            go_ret2
            rw [HF.out]
            exact ⟨rfl, rfl⟩
          · have HF : Hid (lookF r k f (nx r.length i) = lookL r k) := by
              have := HLk.out
              unfold lookF at this
              rw [if_neg h0, if_neg (fun h => h2 h.2)] at this
              exact this
            have HN := hid (ds_nx hi HJ.out (fun e => h0 (by rw [e]; exact HJ0.out)))
            have t2 : ((at' r i).key.toList == k.toList) = false := key_ne h2
            clear h0 h1
            generalize (at' r i).key = k2 at *
            go_wp2_with fail
            go_roundg f
            case measure => omega
            case rel => exact ⟨nx r.length i, congrArg (Value.int .i64) HNx.out, nx_lt HI.out, HF, by have h5 := HN.out; have h6 := HDs.out; show ds r.length (nx r.length i) j < f; omega, rfl⟩
        · have HF : Hid (lookF r k f (nx r.length i) = lookL r k) := by
            have := HLk.out
            unfold lookF at this
            rw [if_neg h0, if_neg (fun h => h1 h.1)] at this
            exact this
          have HN := hid (ds_nx hi HJ.out (fun e => h0 (by rw [e]; exact HJ0.out)))
          rw [(bt2 h0 h1).1] at c0
          rw [(bt2 h0 h1).2] at c1
          clear h0 h1 c2
          go_wp2_with fail
          go_roundg f
          case measure => omega
          case rel => exact ⟨nx r.length i, congrArg (Value.int .i64) HNx.out, nx_lt HI.out, HF, by have h5 := HN.out; have h6 := HDs.out; show ds r.length (nx r.length i) j < f; omega, rfl⟩
theorem rfindR_any {L : List Pl} {v : Value} {b : Option Nat} (k : ByteArray) (w : World) (h : Rh w L v b) (hne : L ≠ []) (hE : L ≠ [] → Emp L) (hk : k.size ≤ 9223372036854775807) (hb : L.length ≤ 1099511627776) :
    Calls Try.prog 72 #[v, .string k] w fun e w' => e = .returned (.tuple #[.int .i64 ((lookL L k).1 : Int), .bool (lookL L k).2]) ∧ w' = w := by
  cases b with
  | none => exact absurd h.1 hne
  | some g =>
    obtain ⟨cap, rest, rfl, hR, hne⟩ := h
    exact rfind_any k w hR (hE hne) hk hb
end Go.Proofs.Ytobigmcklecbnaa
