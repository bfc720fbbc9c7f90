/- agg.Least and Most of int64: walks. -/
import Derived.Test.YtmfkccdlblebjabAArgs
namespace Go.Proofs.Ytmfkccdlblebjab
open Go.RowKit

theorem stat_snoc (xs : List Int) (x : Int) : stat (xs ++ [x]) = stepA (stat xs) x := by
  unfold stat
  rw [List.foldl_append]
  rfl
theorem stat_take (xs : List Int) (k : Nat) (h : k < xs.length) : stat (xs.take (k + 1)) = stepA (stat (xs.take k)) (xs.getD k 0) := by
  rw [take_get xs k h, stat_snoc]
theorem lo_first (x : Int) : (stepA Ag.zero x).lo = x := rfl
theorem hi_first (x : Int) : (stepA Ag.zero x).hi = x := rfl
theorem lo_step (a : Ag) (h : ¬ a.c = 0) (x : Int) : (stepA a x).lo = if x < a.lo then x else a.lo := by
  unfold stepA
  rw [if_neg h]
  split <;> simp only <;> omega
theorem hi_step (a : Ag) (h : ¬ a.c = 0) (x : Int) : (stepA a x).hi = if a.hi < x then x else a.hi := by
  unfold stepA
  rw [if_neg h]
  split <;> simp only <;> omega

theorem leastOne_any (x y : Int) (w : World) : Calls Try.prog 27 #[.int .i64 x, .int .i64 y] w fun e w' => e = .returned (.bool (decide (x < y))) ∧ w' = w := by
  go_enter Try.func27, Try.ntmps27
  go_wp2
  go_ret
  exact ⟨rfl, rfl⟩

set_option maxHeartbeats 1000000 in
theorem leastFore_any (v : Value) (xs : List Int) (w : World) (hv : Is w v xs) :
    Calls Try.prog 26 #[v, .func (.func 27) #[] #[]] w fun e w' => e = .returned (.tuple #[.int .i64 (stat xs).lo, .bool (decide (0 < xs.length))]) ∧ w' = w := by
  obtain ⟨ao, cap, rfl, hlen, hfit, hcell⟩ := hv
  have HC := hid hcell
  clear hcell hfit
  go_enter Try.func26, Try.ntmps26
  go_wp2_with fail
  go_loop [6, 11] (fun b i => ∃ (k : Nat), k ≤ xs.length ∧ i = .int .i64 (k : Int) ∧ b = .int .i64 (stat (xs.take k)).lo) (fun _ i => xs.length - (intOf i).toNat)
  case atStart => exact ⟨0, Nat.zero_le _, rfl, rfl⟩
  case round =>
    obtain ⟨k, hk, rfl, rfl⟩ := hrel
    by_cases hlt : k < xs.length
    · obtain ⟨b, off, rfl, hck⟩ := HC.out (by intro e; subst e; simp at hlt)
      have t1 : (k : Int) < (xs.length : Int) := by omega
      have hxk := hck k hlt
      have HS := hid (stat_take xs k hlt)
      by_cases hz : k = 0
      · subst hz
        have HE := hid (HS.out.trans (show stepA (stat (xs.take 0)) (xs.getD 0 0) = stepA Ag.zero (xs.getD 0 0) from rfl))
        rw [Nat.add_zero] at hxk
        generalize xs.getD 0 0 = x at *
        clear hck HS
        go_wp2_with fail
        go_round
        case rel => exact ⟨1, by omega, rfl, by rw [HE.out]; rfl⟩
        case measure => simp [intOf]; omega
      · have hcn : ¬ (stat (xs.take k)).c = 0 := by rw [stat_count, List.length_take]; omega
        have HE := hid (congrArg Ag.lo HS.out)
        rw [lo_step _ hcn] at HE
        have tz : ((k : Int) == 0) = false := by simp; omega
        generalize xs.getD k 0 = x at *
        generalize (stat (xs.take k)).lo = m at *
        clear hck HS hcn
        by_cases hx : x < m
        · have hxd : decide (x < m) = true := by simpa using hx
          have HL := hid (fun W : World => leastOne_any x m W)
          rw [hxd] at HL
          rw [if_pos hx] at HE
          clear hxd hx
          go_wp2_with fail
          refine (HL.out _).mono ?_
          rintro e w1 ⟨rfl, rfl⟩
          go_wp2_with fail
          go_round
          case rel => exact ⟨k + 1, by omega, by go_num, by rw [HE.out]⟩
          case measure => simp [intOf]; omega
        · have hxd : decide (x < m) = false := by simpa using hx
          have HL := hid (fun W : World => leastOne_any x m W)
          rw [hxd] at HL
          rw [if_neg hx] at HE
          clear hxd hx
          go_wp2_with fail
          refine (HL.out _).mono ?_
          rintro e w1 ⟨rfl, rfl⟩
          go_wp2_with fail
          go_round
          case rel => exact ⟨k + 1, by omega, by go_num, by rw [HE.out]⟩
          case measure => simp [intOf]; omega
    · have t1 : ¬ (k : Int) < (xs.length : Int) := by omega
      have e : xs.take k = xs := List.take_of_length_le (by omega)
      rw [e]
      clear e
      go_wp2_with fail
      go_ret2
      exact ⟨rfl, rfl⟩

theorem least_any (v : Value) (xs : List Int) (w : World) (hv : Is w v xs) :
    Calls Try.prog 16 #[v] w fun e w' => e = .returned (.tuple #[.int .i64 (stat xs).lo, .bool (decide (0 < xs.length))]) ∧ w' = w := by
  have HF := hid (leastFore_any v xs w hv)
  clear hv
  go_enter Try.func16, Try.ntmps16
  go_wp2_with fail
  refine HF.out.mono ?_
  rintro e w1 ⟨rfl, rfl⟩
  go_wp2_with fail
  go_ret2
  exact ⟨rfl, rfl⟩

theorem mostOne_any (x y : Int) (w : World) : Calls Try.prog 28 #[.int .i64 x, .int .i64 y] w fun e w' => e = .returned (.bool (decide (y < x))) ∧ w' = w := by
  go_enter Try.func28, Try.ntmps28
  go_wp2
  go_ret
  exact ⟨rfl, rfl⟩

set_option maxHeartbeats 1000000 in
theorem mostFore_any (v : Value) (xs : List Int) (w : World) (hv : Is w v xs) :
    Calls Try.prog 26 #[v, .func (.func 28) #[] #[]] w fun e w' => e = .returned (.tuple #[.int .i64 (stat xs).hi, .bool (decide (0 < xs.length))]) ∧ w' = w := by
  obtain ⟨ao, cap, rfl, hlen, hfit, hcell⟩ := hv
  have HC := hid hcell
  clear hcell hfit
  go_enter Try.func26, Try.ntmps26
  go_wp2_with fail
  go_loop [6, 11] (fun b i => ∃ (k : Nat), k ≤ xs.length ∧ i = .int .i64 (k : Int) ∧ b = .int .i64 (stat (xs.take k)).hi) (fun _ i => xs.length - (intOf i).toNat)
  case atStart => exact ⟨0, Nat.zero_le _, rfl, rfl⟩
  case round =>
    obtain ⟨k, hk, rfl, rfl⟩ := hrel
    by_cases hlt : k < xs.length
    · obtain ⟨b, off, rfl, hck⟩ := HC.out (by intro e; subst e; simp at hlt)
      have t1 : (k : Int) < (xs.length : Int) := by omega
      have hxk := hck k hlt
      have HS := hid (stat_take xs k hlt)
      by_cases hz : k = 0
      · subst hz
        have HE := hid (HS.out.trans (show stepA (stat (xs.take 0)) (xs.getD 0 0) = stepA Ag.zero (xs.getD 0 0) from rfl))
        rw [Nat.add_zero] at hxk
        generalize xs.getD 0 0 = x at *
        clear hck HS
        go_wp2_with fail
        go_round
        case rel => exact ⟨1, by omega, rfl, by rw [HE.out]; rfl⟩
        case measure => simp [intOf]; omega
      · have hcn : ¬ (stat (xs.take k)).c = 0 := by rw [stat_count, List.length_take]; omega
        have HE := hid (congrArg Ag.hi HS.out)
        rw [hi_step _ hcn] at HE
        have tz : ((k : Int) == 0) = false := by simp; omega
        generalize xs.getD k 0 = x at *
        generalize (stat (xs.take k)).hi = m at *
        clear hck HS hcn
        by_cases hx : m < x
        · have hxd : decide (m < x) = true := by simpa using hx
          have HL := hid (fun W : World => mostOne_any x m W)
          rw [hxd] at HL
          rw [if_pos hx] at HE
          clear hxd hx
          go_wp2_with fail
          refine (HL.out _).mono ?_
          rintro e w1 ⟨rfl, rfl⟩
          go_wp2_with fail
          go_round
          case rel => exact ⟨k + 1, by omega, by go_num, by rw [HE.out]⟩
          case measure => simp [intOf]; omega
        · have hxd : decide (m < x) = false := by simpa using hx
          have HL := hid (fun W : World => mostOne_any x m W)
          rw [hxd] at HL
          rw [if_neg hx] at HE
          clear hxd hx
          go_wp2_with fail
          refine (HL.out _).mono ?_
          rintro e w1 ⟨rfl, rfl⟩
          go_wp2_with fail
          go_round
          case rel => exact ⟨k + 1, by omega, by go_num, by rw [HE.out]⟩
          case measure => simp [intOf]; omega
    · have t1 : ¬ (k : Int) < (xs.length : Int) := by omega
      have e : xs.take k = xs := List.take_of_length_le (by omega)
      rw [e]
      clear e
      go_wp2_with fail
      go_ret2
      exact ⟨rfl, rfl⟩

theorem most_any (v : Value) (xs : List Int) (w : World) (hv : Is w v xs) :
    Calls Try.prog 17 #[v] w fun e w' => e = .returned (.tuple #[.int .i64 (stat xs).hi, .bool (decide (0 < xs.length))]) ∧ w' = w := by
  have HF := hid (mostFore_any v xs w hv)
  clear hv
  go_enter Try.func17, Try.ntmps17
  go_wp2_with fail
  refine HF.out.mono ?_
  rintro e w1 ⟨rfl, rfl⟩
  go_wp2_with fail
  go_ret2
  exact ⟨rfl, rfl⟩
end Go.Proofs.Ytmfkccdlblebjab
