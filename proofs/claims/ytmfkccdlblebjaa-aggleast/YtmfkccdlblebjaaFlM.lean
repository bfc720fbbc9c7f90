/- agg.Least and Most of float64, whole: walks. -/
import Derived.Test.YtmfkccdlblebjaaFlW
namespace Go.Proofs.Ytmfkccdlblebjaa
open Go.RowKit

theorem take_ne (xs : List Nat) (k : Nat) (h : k < xs.length) (hz : ¬ k = 0) : xs.take k ≠ [] := by
  intro e
  have h0 : (xs.take k).length = 0 := by rw [e]; rfl
  rw [List.length_take] at h0
  omega

set_option maxHeartbeats 1000000 in
theorem leastForeF_any (v : Value) (xs : List Nat) (w : World) (hv : Fs w v xs) :
    Calls Try.prog 37 #[v, .func (.func 38) #[] #[]] w fun e w' => e = .returned (.tuple #[.float .f64 (foreF ltF xs), .bool (decide (0 < xs.length))]) ∧ w' = w := by
  obtain ⟨ao, cap, rfl, hlen, hcell⟩ := hv
  have HC := hid hcell
  clear hcell
  go_enter Try.func37, Try.ntmps37
  go_wp2_with fail
  go_loop [6, 11] (fun b i => ∃ (k : Nat), k ≤ xs.length ∧ i = .int .i64 (k : Int) ∧ b = .float .f64 (foreF ltF (xs.take k))) (fun _ i => xs.length - (intOf i).toNat)
  case atStart => exact ⟨0, Nat.zero_le _, rfl, rfl⟩
  case round =>
    obtain ⟨k, hk, rfl, rfl⟩ := hrel
    by_cases hlt : k < xs.length
    · obtain ⟨b, off, rfl, hck⟩ := HC.out (by intro e; subst e; simp at hlt)
      have t1 : (k : Int) < (xs.length : Int) := by omega
      have hxk := hck k hlt
      by_cases hz : k = 0
      · subst hz
        have HE : Hid (foreF ltF (xs.take 1) = xs.getD 0 0) := by
          show foreF ltF (xs.take 1) = xs.getD 0 0
          rw [take_getN xs 0 hlt]
          rfl
        rw [Nat.add_zero] at hxk
        generalize xs.getD 0 0 = x at *
        clear hck
        go_wp2_with fail
        go_round
        case rel => exact ⟨1, by omega, rfl, by rw [HE.out]⟩
        case measure => simp [intOf]; omega
      · have HE : Hid (foreF ltF (xs.take (k + 1)) = if ltF (xs.getD k 0) (foreF ltF (xs.take k)) then xs.getD k 0 else foreF ltF (xs.take k)) := by
          show foreF ltF (xs.take (k + 1)) = _
          rw [take_getN xs k hlt, foreF_snoc _ _ _ (take_ne xs k hlt hz)]
        have tz : ((k : Int) == 0) = false := by simp; omega
        generalize xs.getD k 0 = x at *
        generalize foreF ltF (xs.take k) = m at *
        clear hck
        have HL := hid (fun W : World => leastOneF_any x m W)
        cases hx : ltF x m with
        | true =>
          rw [hx] at HL
          have HE' : Hid (foreF ltF (xs.take (k + 1)) = x) := by have := HE.out; rw [hx] at this; exact this
          clear hx HE
          go_wp2_with fail
          refine (HL.out _).mono ?_
          rintro e w1 ⟨rfl, rfl⟩
          go_wp2_with fail
          go_round
          case rel => exact ⟨k + 1, by omega, by go_num, by rw [HE'.out]⟩
          case measure => simp [intOf]; omega
        | false =>
          rw [hx] at HL
          have HE' : Hid (foreF ltF (xs.take (k + 1)) = m) := by have := HE.out; rw [hx] at this; exact this
          clear hx HE
          go_wp2_with fail
          refine (HL.out _).mono ?_
          rintro e w1 ⟨rfl, rfl⟩
          go_wp2_with fail
          go_round
          case rel => exact ⟨k + 1, by omega, by go_num, by rw [HE'.out]⟩
          case measure => simp [intOf]; omega
    · have t1 : ¬ (k : Int) < (xs.length : Int) := by omega
      have e : xs.take k = xs := List.take_of_length_le (by omega)
      rw [e]
      clear e
      go_wp2_with fail
      go_ret2
      exact ⟨rfl, rfl⟩

theorem leastF_any (v : Value) (xs : List Nat) (w : World) (hv : Fs w v xs) :
    Calls Try.prog 28 #[v] w fun e w' => e = .returned (.tuple #[.float .f64 (foreF ltF xs), .bool (decide (0 < xs.length))]) ∧ w' = w := by
  have HF := hid (leastForeF_any v xs w hv)
  clear hv
  go_enter Try.func28, Try.ntmps28
  go_wp2_with fail
  refine HF.out.mono ?_
  rintro e w1 ⟨rfl, rfl⟩
  go_wp2_with fail
  go_ret2
  exact ⟨rfl, rfl⟩

set_option maxHeartbeats 1000000 in
theorem mostForeF_any (v : Value) (xs : List Nat) (w : World) (hv : Fs w v xs) :
    Calls Try.prog 37 #[v, .func (.func 39) #[] #[]] w fun e w' => e = .returned (.tuple #[.float .f64 (foreF gtF xs), .bool (decide (0 < xs.length))]) ∧ w' = w := by
  obtain ⟨ao, cap, rfl, hlen, hcell⟩ := hv
  have HC := hid hcell
  clear hcell
  go_enter Try.func37, Try.ntmps37
  go_wp2_with fail
  go_loop [6, 11] (fun b i => ∃ (k : Nat), k ≤ xs.length ∧ i = .int .i64 (k : Int) ∧ b = .float .f64 (foreF gtF (xs.take k))) (fun _ i => xs.length - (intOf i).toNat)
  case atStart => exact ⟨0, Nat.zero_le _, rfl, rfl⟩
  case round =>
    obtain ⟨k, hk, rfl, rfl⟩ := hrel
    by_cases hlt : k < xs.length
    · obtain ⟨b, off, rfl, hck⟩ := HC.out (by intro e; subst e; simp at hlt)
      have t1 : (k : Int) < (xs.length : Int) := by omega
      have hxk := hck k hlt
      by_cases hz : k = 0
      · subst hz
        have HE : Hid (foreF gtF (xs.take 1) = xs.getD 0 0) := by
          show foreF gtF (xs.take 1) = xs.getD 0 0
          rw [take_getN xs 0 hlt]
          rfl
        rw [Nat.add_zero] at hxk
        generalize xs.getD 0 0 = x at *
        clear hck
        go_wp2_with fail
        go_round
        case rel => exact ⟨1, by omega, rfl, by rw [HE.out]⟩
        case measure => simp [intOf]; omega
      · have HE : Hid (foreF gtF (xs.take (k + 1)) = if gtF (xs.getD k 0) (foreF gtF (xs.take k)) then xs.getD k 0 else foreF gtF (xs.take k)) := by
          show foreF gtF (xs.take (k + 1)) = _
          rw [take_getN xs k hlt, foreF_snoc _ _ _ (take_ne xs k hlt hz)]
        have tz : ((k : Int) == 0) = false := by simp; omega
        generalize xs.getD k 0 = x at *
        generalize foreF gtF (xs.take k) = m at *
        clear hck
        have HL := hid (fun W : World => mostOneF_any x m W)
        cases hx : gtF x m with
        | true =>
          rw [hx] at HL
          have HE' : Hid (foreF gtF (xs.take (k + 1)) = x) := by have := HE.out; rw [hx] at this; exact this
          clear hx HE
          go_wp2_with fail
          refine (HL.out _).mono ?_
          rintro e w1 ⟨rfl, rfl⟩
          go_wp2_with fail
          go_round
          case rel => exact ⟨k + 1, by omega, by go_num, by rw [HE'.out]⟩
          case measure => simp [intOf]; omega
        | false =>
          rw [hx] at HL
          have HE' : Hid (foreF gtF (xs.take (k + 1)) = m) := by have := HE.out; rw [hx] at this; exact this
          clear hx HE
          go_wp2_with fail
          refine (HL.out _).mono ?_
          rintro e w1 ⟨rfl, rfl⟩
          go_wp2_with fail
          go_round
          case rel => exact ⟨k + 1, by omega, by go_num, by rw [HE'.out]⟩
          case measure => simp [intOf]; omega
    · have t1 : ¬ (k : Int) < (xs.length : Int) := by omega
      have e : xs.take k = xs := List.take_of_length_le (by omega)
      rw [e]
      clear e
      go_wp2_with fail
      go_ret2
      exact ⟨rfl, rfl⟩

theorem mostF_any (v : Value) (xs : List Nat) (w : World) (hv : Fs w v xs) :
    Calls Try.prog 29 #[v] w fun e w' => e = .returned (.tuple #[.float .f64 (foreF gtF xs), .bool (decide (0 < xs.length))]) ∧ w' = w := by
  have HF := hid (mostForeF_any v xs w hv)
  clear hv
  go_enter Try.func29, Try.ntmps29
  go_wp2_with fail
  refine HF.out.mono ?_
  rintro e w1 ⟨rfl, rfl⟩
  go_wp2_with fail
  go_ret2
  exact ⟨rfl, rfl⟩
end Go.Proofs.Ytmfkccdlblebjaa
