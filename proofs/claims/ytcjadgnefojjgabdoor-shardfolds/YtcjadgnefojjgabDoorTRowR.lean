/- table: home, next, way, look of a row: walks. -/
import Derived.Test.YtcjadgnefojjgabDoorTBaseR
namespace Go.Proofs.YtcjadgnefojjgabDoor.R
open Go.RowKit


set_option maxRecDepth 100000 in
theorem home_any (g cap : Nat) (r : List Pl) (k : ByteArray) (w : World) (hk : k.size ≤ 9223372036854775807) (hn : 0 < r.length) (hb : r.length ≤ 1099511627776) :
    Calls Tryd.prog 69 #[.slice (some ⟨g, 0, none⟩) r.length cap, .string k] w fun e w' => e = .returned (.int .i64 (homeL r k : Int)) ∧ w' = w := by
  have t1 : ((r.length : Int) == 0) = false := by simp; rintro rfl; simp at hn
  have HH := hid (hash_any k w hk)
  have hl : homeL r k < r.length := homeL_lt k hn
  have HL := hid (show (hashL k : Int) % (r.length : Int) = (homeL r k : Int) from rfl)
  have h2 : (hashL k : Int) < 18446744073709551616 := by have := hashN_lt k k.size; unfold hashL; omega
  have h3 : (0 : Int) ≤ (hashL k : Int) := by omega
  go_enter Tryd.func69, Tryd.ntmps69
  go_wp2_with fail
  refine HH.out.mono ?_
  rintro e w1 ⟨rfl, hw1⟩
  have hw1 := hw1.symm
  subst hw1
  go_wp2_with fail
  go_ret
  refine ⟨congrArg (fun x => Ending.returned (.int .i64 x)) ?_, rfl⟩
  rw [HL.out]
  unfold wrap64
  omega

set_option maxRecDepth 100000 in
theorem next_any (g cap : Nat) (n i : Nat) (w : World) (hi : i < n) (hb : n ≤ 1099511627776) :
    Calls Tryd.prog 70 #[.slice (some ⟨g, 0, none⟩) n cap, .int .i64 (i : Int)] w fun e w' => e = .returned (.int .i64 (nx n i : Int)) ∧ w' = w := by
  have t1 : ((n : Int) == 0) = false := by simp; omega
  have HL := hid (show ((i : Int) + 1) % (n : Int) = (nx n i : Int) from by
    rw [← nx_mod hi]; rfl)
  go_enter Tryd.func70, Tryd.ntmps70
  go_wp2_with fail
  go_ret
  exact ⟨congrArg (fun x => Ending.returned (.int .i64 x)) HL.out, rfl⟩

theorem row_nil (W : World) (g n cap : Nat) : (binOp .eql 95 (.slice (some ⟨g, 0, none⟩) n cap) (.slice none 0 0)).run Tryd.prog W = .ok (.bool false) W := by kernel_rfl
theorem row_is_nil (W : World) : (binOp .eql 95 (.slice none 0 0) (.slice none 0 0)).run Tryd.prog W = .ok (.bool true) W := by kernel_rfl

set_option maxHeartbeats 1000000 in
set_option maxRecDepth 100000 in
theorem look_any {g cap : Nat} {r : List Pl} {rest : List Value} (k : ByteArray) (w : World) (hR : RowG 113 w g r rest) (hE : Emp r) (hk : k.size ≤ 9223372036854775807) (hb : r.length ≤ 1099511627776) :
    Calls Tryd.prog 59 #[.slice (some ⟨g, 0, none⟩) r.length cap, .string k] w fun e w' => e = .returned (.tuple #[.int .i64 ((lookL r k).1 : Int), .bool (lookL r k).2]) ∧ w' = w := by
  obtain ⟨j, hj, hj0⟩ := hE
  have hn : 0 < r.length := by omega
  have HH := hid (home_any g cap r k w hk hn hb)
  have hh := homeL_lt k hn
  have HD := hid (ds_lt hh hj)
  have HR := hid hR
  have HJ := hid hj
  have HJ0 := hid hj0
  have HS : Hid (lookF r k r.length (homeL r k) = lookL r k) := by
    unfold Hid lookL
    rw [if_neg (by omega)]
  have hgl := hR.lt
  have hrn := row_nil
  clear hR hj hj0
  go_enter Tryd.func59, Tryd.ntmps59
  go_wp2_with fail
  refine HH.out.mono ?_
  rintro e w1 ⟨rfl, hw1⟩
  have hw1 := hw1.symm
  subst hw1
  go_wp2_with fail
  go_loopg [4] r.length (fun gk s4 wx => ∃ i : Nat, s4 = .int .i64 (i : Int) ∧ i < r.length ∧ Hid (lookF r k gk i = lookL r k) ∧ Hid (ds r.length i j < gk) ∧ wx = w)
  case atStart => exact ⟨homeL r k, rfl, hh, HS, HD, rfl⟩
  case round =>
    obtain ⟨i, rfl, hi, HLk, HDs, rfl⟩ := hrel
    clear HS HD HH
    have t0 : (0 : Int) ≤ (i : Int) := by omega
    have t1 : (i : Int) < (r.length : Int) := by omega
    have HI := hid hi
    obtain ⟨c0, c1, _⟩ := HR.out.cells i hi
    cases gk with
    | zero => exact absurd HDs.out (Nat.not_lt_zero _)
    | succ f =>
      by_cases h0 : (at' r i).st = 0
      · have HF : Hid (lookL r k = (i, false)) := by
          have := HLk.out
          unfold lookF at this
          rw [if_pos h0] at this
          exact this.symm
        rw [h0] at c0
        clear h0 c1
        go_wp2_with fail
        go_ret2
        rw [HF.out]
        exact ⟨rfl, rfl⟩
      · by_cases h1 : (at' r i).st = 1
        · rw [h1] at c0
          by_cases h2 : (at' r i).key = k
          · rw [h2] at c1
            have HF : Hid (lookL r k = (i, true)) := by
              have := HLk.out
              unfold lookF at this
              rw [if_neg h0, if_pos ⟨h1, h2⟩] at this
              exact this.symm
            clear h0 h1 h2
            go_wp2_with fail
            go_ret2
            rw [HF.out]
            exact ⟨rfl, rfl⟩
          · have HF : Hid (lookF r k f (nx r.length i) = lookL r k) := by
              have := HLk.out
              unfold lookF at this
              rw [if_neg h0, if_neg (fun h => h2 h.2)] at this
              exact this
            have HN := hid (ds_nx hi HJ.out (fun e => h0 (by rw [e]; exact HJ0.out)))
            have t2 : ((at' r i).key.toList == k.toList) = false := key_ne h2
            have HX := hid (next_any g cap r.length i wr hi hb)
            clear h0 h1
            generalize (at' r i).key = k2 at *
            go_wp2_with fail
            refine HX.out.mono ?_
            rintro e w1 ⟨rfl, hw1⟩
            have hw1 := hw1.symm
            subst hw1
            go_wp2_with fail
            go_roundg f
            case measure => omega
            case rel => exact ⟨nx r.length i, rfl, nx_lt HI.out, HF, by have h5 := HN.out; have h6 := HDs.out; show ds r.length (nx r.length i) j < f; omega, rfl⟩
        · have HF : Hid (lookF r k f (nx r.length i) = lookL r k) := by
            have := HLk.out
            unfold lookF at this
            rw [if_neg h0, if_neg (fun h => h1 h.1)] at this
            exact this
          have HN := hid (ds_nx hi HJ.out (fun e => h0 (by rw [e]; exact HJ0.out)))
          have t2 : (((at' r i).st : Int) == 0) = false := by simp; exact h0
          have t3 : (((at' r i).st : Int) == 1) = false := by simp; omega
          have HX := hid (next_any g cap r.length i wr hi hb)
          clear h0 h1 c1
          generalize (at' r i).st = st at *
          go_wp2_with fail
          refine HX.out.mono ?_
          rintro e w1 ⟨rfl, hw1⟩
          have hw1 := hw1.symm
          subst hw1
          go_wp2_with fail
          go_roundg f
          case measure => omega
          case rel => exact ⟨nx r.length i, rfl, nx_lt HI.out, HF, by have h5 := HN.out; have h6 := HDs.out; show ds r.length (nx r.length i) j < f; omega, rfl⟩

theorem look_nil (k : ByteArray) (w : World) :
    Calls Tryd.prog 59 #[.slice none 0 0, .string k] w fun e w' => e = .returned (.tuple #[.int .i64 0, .bool false]) ∧ w' = w := by
  have hrn := row_is_nil
  go_enter Tryd.func59, Tryd.ntmps59
  go_wp2_with fail
  go_ret2
  exact ⟨rfl, rfl⟩
end Go.Proofs.YtcjadgnefojjgabDoor.R
