/- The document's one, above, Less, Plus: walks. -/
import Derived.Test.YtbhhpkbiflolfaaARefA

namespace Go.Proofs.Ytbhhpkbiflolfaa.A
open Go.RowKit

theorem rone_any (n : Int) (h : fits n) (w : World) : Calls Try.prog 50 #[.int .i64 n] w fun e w' => e = .returned (refV n) ∧ Fr w w' (fun _ => False) := by
  have HT := hid (fun W : World => rtimes_any n 1 h (by decide) W)
  rw [Int.mul_one] at HT
  unfold refV at *
  go_enter Try.func50, Try.ntmps50
  go_wp2_with fail
  refine (HT.out _).mono ?_
  rintro e w1 ⟨rfl, hf⟩
  obtain ⟨hc1, hc2⟩ := fr_rules hf
  have hz : w.heap.size < w1.heap.size := by have := hf.size; simp at this; omega
  have HF := hid ((alloc_fr w _ _).trans hf)
  clear hf
  go_wp2_with fail
  exact bodyPost_ret (v := .agg #[.bool (decide (n < 0)), .int .u64 (nhi n), .int .u64 (nlo n)]) (by simp [results, Try.results50, go_sem, hc1]) rfl ⟨rfl, ((HF.out.setCell (fun h => by simp at h) _).setCell (fun h => by simp at h) _).setCell (fun h => by simp at h) _⟩

theorem abs_lt (x y : Int) : absI x < absI y ↔ (nhi x < nhi y ∨ nhi x = nhi y ∧ nlo x < nlo y) := by
  unfold nhi nlo; omega

set_option maxHeartbeats 400000 in
theorem above_any (x y : Int) (w : World) : Calls Try.prog 81 #[refV x, refV y] w fun e w' => e = .returned (.bool (decide (absI y < absI x))) ∧ Fr w w' (fun _ => False) := by
  have hh := abs_lt y x
  unfold refV
  by_cases g1 : nhi y < nhi x
  · have e : decide (absI y < absI x) = true := by simp [hh, g1]
    rw [e]
    have b1 : decide (nhi y < nhi x) = true := by simpa using g1
    clear e hh g1
    go_enter Try.func81, Try.ntmps81
    go_wp2
    go_ret
    exact ⟨rfl, (alloc_fr _ _ _).alloc _⟩
  · have b1 : decide (nhi y < nhi x) = false := by simpa using g1
    by_cases g2 : nhi x = nhi y
    · have e : decide (absI y < absI x) = decide (nlo y < nlo x) := by rw [decide_eq_decide, hh]; omega
      rw [e]
      have b2 : (nhi x == nhi y) = true := by simpa using g2
      clear e hh g1 g2
      go_enter Try.func81, Try.ntmps81
      go_wp2
      go_ret
      exact ⟨rfl, (alloc_fr _ _ _).alloc _⟩
    · have e : decide (absI y < absI x) = false := by simp; omega
      rw [e]
      have b2 : (nhi x == nhi y) = false := by simpa using g2
      clear e hh g1 g2
      go_enter Try.func81, Try.ntmps81
      go_wp2
      go_ret
      exact ⟨rfl, (alloc_fr _ _ _).alloc _⟩

set_option maxHeartbeats 400000 in
theorem less_any (x y : Int) (w : World) : Calls Try.prog 52 #[refV x, refV y] w fun e w' => e = .returned (.bool (decide (x ≤ y))) ∧ Fr w w' (fun _ => False) := by
  have HA1 := hid (fun W : World => above_any x y W)
  have HA2 := hid (fun W : World => above_any y x W)
  unfold refV at *
  by_cases g1 : x < 0
  · by_cases g2 : y < 0
    · have e : decide (x ≤ y) = !decide (absI x < absI y) := by
        rw [Bool.eq_iff_iff]; simp; unfold absI; rw [if_pos g1, if_pos g2]; omega
      rw [e]
      have b1 : decide (x < 0) = true := by simpa using g1
      have b2 : decide (y < 0) = true := by simpa using g2
      clear e g1 g2
      go_enter Try.func52, Try.ntmps52
      go_wp2_with fail
      rw [b1, b2] at HA2
      refine (HA2.out _).mono ?_
      rintro e w1 ⟨rfl, hf⟩
      have HF := hid (((alloc_fr w _ _).alloc _).trans hf)
      clear hf
      go_wp2_with fail
      go_ret
      exact ⟨rfl, HF.out⟩
    · have e : decide (x ≤ y) = true := by simp; omega
      rw [e]
      have b1 : decide (x < 0) = true := by simpa using g1
      have b2 : decide (y < 0) = false := by simpa using g2
      clear e g1 g2
      go_enter Try.func52, Try.ntmps52
      go_wp2_with fail
      go_ret
      exact ⟨rfl, (alloc_fr _ _ _).alloc _⟩
  · by_cases g2 : y < 0
    · have e : decide (x ≤ y) = false := by simp; omega
      rw [e]
      have b1 : decide (x < 0) = false := by simpa using g1
      have b2 : decide (y < 0) = true := by simpa using g2
      clear e g1 g2
      go_enter Try.func52, Try.ntmps52
      go_wp2_with fail
      go_ret
      exact ⟨rfl, (alloc_fr _ _ _).alloc _⟩
    · have e : decide (x ≤ y) = !decide (absI y < absI x) := by
        rw [Bool.eq_iff_iff]; simp; unfold absI; rw [if_neg g1, if_neg g2]
      rw [e]
      have b1 : decide (x < 0) = false := by simpa using g1
      have b2 : decide (y < 0) = false := by simpa using g2
      clear e g1 g2
      go_enter Try.func52, Try.ntmps52
      go_wp2_with fail
      rw [b1, b2] at HA1
      refine (HA1.out _).mono ?_
      rintro e w1 ⟨rfl, hf⟩
      have HF := hid (((alloc_fr w _ _).alloc _).trans hf)
      clear hf
      go_wp2_with fail
      go_ret
      exact ⟨rfl, HF.out⟩
end Go.Proofs.Ytbhhpkbiflolfaa.A
