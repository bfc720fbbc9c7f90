/- The document's Plus: walks. -/
import Derived.Test.YtbhhpkbiflolfaaARefA2

namespace Go.Proofs.Ytbhhpkbiflolfaa.A
open Go.RowKit

/-- Sizes that leave room for a sum. -/
def room2 (x : Int) : Prop := absI x ≤ 170141183460469231731687303715884105727
theorem nhi_room {x : Int} (h : room2 x) : nhi x ≤ 9223372036854775807 := by unfold room2 at h; unfold nhi; omega

theorem same_abs {x y : Int} (h : decide (x < 0) = decide (y < 0)) : absI (x + y) = absI x + absI y := by
  have h' : (x < 0) ↔ (y < 0) := by simpa using h
  unfold absI
  by_cases g : x < 0
  · have g2 := h'.1 g
    rw [if_pos g, if_pos g2, if_pos (by omega)]; omega
  · have g2 : ¬ y < 0 := fun k => g (h'.2 k)
    rw [if_neg g, if_neg g2, if_neg (by omega)]
theorem diff_abs {x y : Int} (h : decide (x < 0) ≠ decide (y < 0)) (hle : absI y ≤ absI x) : absI (x + y) = absI x - absI y := by
  unfold absI at *
  by_cases g : x < 0 <;> by_cases g2 : y < 0 <;> simp [g, g2] at h hle ⊢ <;> (try split) <;> omega
theorem same_neg {x y : Int} (h : decide (x < 0) = decide (y < 0)) : decide (x + y < 0) = (decide (x < 0) && !(absI (x + y) == 0)) := by
  have h' : (x < 0) ↔ (y < 0) := by simpa using h
  have e := absI_nat (x + y)
  rw [Bool.eq_iff_iff]
  simp
  rw [e]
  omega
theorem diff_neg {x y : Int} (h : decide (x < 0) ≠ decide (y < 0)) (hle : absI y ≤ absI x) : decide (x + y < 0) = (decide (x < 0) && !(absI (x + y) == 0)) := by
  have e := absI_nat (x + y)
  have e1 := absI_nat x
  have e2 := absI_nat y
  rw [Bool.eq_iff_iff]
  by_cases g : x < 0 <;> by_cases g2 : y < 0 <;> simp [g, g2] at h ⊢ <;> omega

/-- How a sum's sign comes out: what the walk's guards ask. -/
theorem zero_iff (z : Int) : (absI z == 0) = (nhi z == 0 && nlo z == 0) := by
  have e := absI_nat z
  rw [Bool.eq_iff_iff]
  simp
  unfold nhi nlo
  omega

set_option maxHeartbeats 2000000 in
theorem plus_same_t_nz (A B C D : Int) (a1 : 0 ≤ A) (a2 : A ≤ 9223372036854775807) (c1 : 0 ≤ C) (c2 : C ≤ 9223372036854775807) (b1 : 0 ≤ B) (b2 : B ≤ 18446744073709551615) (d1 : 0 ≤ D) (d2 : D ≤ 18446744073709551615) (hc : B + D ≤ 18446744073709551615) (hz : (A + C == 0) = true) (w : World) :
    Calls Try.prog 49 #[.agg #[.bool true, .int .u64 A, .int .u64 B], .agg #[.bool true, .int .u64 C, .int .u64 D]] w fun e w' => e = .returned (.agg #[.bool (B + D != 0), .int .u64 (A + C), .int .u64 (B + D)]) ∧ Fr w w' (fun _ => False) := by
  have t1 : ¬ B + D < B := by omega
  have hz2 : (A + C != 0) = false := by simp only [bne, hz]; rfl
  go_enter Try.func49, Try.ntmps49
  go_wp2_with fail
  exact bodyPost_ret (v := .agg #[.bool (B + D != 0), .int .u64 (A + C), .int .u64 (B + D)]) (by simp [results, Try.results49, go_sem]) rfl ⟨rfl, ((alloc_fr _ _ _).alloc _).alloc _⟩
set_option maxHeartbeats 2000000 in
theorem plus_same_t_np (A B C D : Int) (a1 : 0 ≤ A) (a2 : A ≤ 9223372036854775807) (c1 : 0 ≤ C) (c2 : C ≤ 9223372036854775807) (b1 : 0 ≤ B) (b2 : B ≤ 18446744073709551615) (d1 : 0 ≤ D) (d2 : D ≤ 18446744073709551615) (hc : B + D ≤ 18446744073709551615) (hz : (A + C == 0) = false) (w : World) :
    Calls Try.prog 49 #[.agg #[.bool true, .int .u64 A, .int .u64 B], .agg #[.bool true, .int .u64 C, .int .u64 D]] w fun e w' => e = .returned (.agg #[.bool (true), .int .u64 (A + C), .int .u64 (B + D)]) ∧ Fr w w' (fun _ => False) := by
  have t1 : ¬ B + D < B := by omega
  have hz2 : (A + C != 0) = true := by simp only [bne, hz]; rfl
  go_enter Try.func49, Try.ntmps49
  go_wp2_with fail
  exact bodyPost_ret (v := .agg #[.bool (true), .int .u64 (A + C), .int .u64 (B + D)]) (by simp [results, Try.results49, go_sem]) rfl ⟨rfl, ((alloc_fr _ _ _).alloc _).alloc _⟩
set_option maxHeartbeats 2000000 in
theorem plus_same_t_cp (A B C D E : Int) (a1 : 0 ≤ A) (a2 : A ≤ 9223372036854775807) (c1 : 0 ≤ C) (c2 : C ≤ 9223372036854775807) (hw : IntKind.u64.wrap (B + D) = E) (hE : E < B) (hz : (A + C + 1 == 0) = false) (w : World) :
    Calls Try.prog 49 #[.agg #[.bool true, .int .u64 A, .int .u64 B], .agg #[.bool true, .int .u64 C, .int .u64 D]] w fun e w' => e = .returned (.agg #[.bool (true), .int .u64 (A + C + 1), .int .u64 (E)]) ∧ Fr w w' (fun _ => False) := by
  have hz2 : (A + C + 1 != 0) = true := by simp only [bne, hz]; rfl
  go_enter Try.func49, Try.ntmps49
  go_wp2_with fail
  exact bodyPost_ret (v := .agg #[.bool (true), .int .u64 (A + C + 1), .int .u64 (E)]) (by simp [results, Try.results49, go_sem]) rfl ⟨rfl, ((alloc_fr _ _ _).alloc _).alloc _⟩
set_option maxHeartbeats 2000000 in
theorem plus_same_f_n (A B C D : Int) (a1 : 0 ≤ A) (a2 : A ≤ 9223372036854775807) (c1 : 0 ≤ C) (c2 : C ≤ 9223372036854775807) (b1 : 0 ≤ B) (b2 : B ≤ 18446744073709551615) (d1 : 0 ≤ D) (d2 : D ≤ 18446744073709551615) (hc : B + D ≤ 18446744073709551615) (w : World) :
    Calls Try.prog 49 #[.agg #[.bool false, .int .u64 A, .int .u64 B], .agg #[.bool false, .int .u64 C, .int .u64 D]] w fun e w' => e = .returned (.agg #[.bool (false), .int .u64 (A + C), .int .u64 (B + D)]) ∧ Fr w w' (fun _ => False) := by
  have t1 : ¬ B + D < B := by omega
  go_enter Try.func49, Try.ntmps49
  go_wp2_with fail
  exact bodyPost_ret (v := .agg #[.bool (false), .int .u64 (A + C), .int .u64 (B + D)]) (by simp [results, Try.results49, go_sem]) rfl ⟨rfl, ((alloc_fr _ _ _).alloc _).alloc _⟩
set_option maxHeartbeats 2000000 in
theorem plus_same_f_c (A B C D E : Int) (a1 : 0 ≤ A) (a2 : A ≤ 9223372036854775807) (c1 : 0 ≤ C) (c2 : C ≤ 9223372036854775807) (hw : IntKind.u64.wrap (B + D) = E) (hE : E < B) (w : World) :
    Calls Try.prog 49 #[.agg #[.bool false, .int .u64 A, .int .u64 B], .agg #[.bool false, .int .u64 C, .int .u64 D]] w fun e w' => e = .returned (.agg #[.bool (false), .int .u64 (A + C + 1), .int .u64 (E)]) ∧ Fr w w' (fun _ => False) := by
  go_enter Try.func49, Try.ntmps49
  go_wp2_with fail
  exact bodyPost_ret (v := .agg #[.bool (false), .int .u64 (A + C + 1), .int .u64 (E)]) (by simp [results, Try.results49, go_sem]) rfl ⟨rfl, ((alloc_fr _ _ _).alloc _).alloc _⟩
set_option maxHeartbeats 2000000 in
theorem plus_diff_t_nz (A B C D : Int) (a1 : 0 ≤ A) (a2 : A ≤ 9223372036854775807) (c1 : 0 ≤ C) (c2 : C ≤ 9223372036854775807) (b1 : 0 ≤ B) (b2 : B ≤ 18446744073709551615) (d1 : 0 ≤ D) (d2 : D ≤ 18446744073709551615) (hc : D ≤ B) (hAC : C ≤ A) (HAB : Hid (∀ W : World, Calls Try.prog 81 #[.agg #[.bool false, .int .u64 C, .int .u64 D], .agg #[.bool true, .int .u64 A, .int .u64 B]] W fun e w' => e = .returned (.bool false) ∧ Fr W w' (fun _ => False))) (hz : (A - C == 0) = true) (w : World) :
    Calls Try.prog 49 #[.agg #[.bool true, .int .u64 A, .int .u64 B], .agg #[.bool false, .int .u64 C, .int .u64 D]] w fun e w' => e = .returned (.agg #[.bool (B - D != 0), .int .u64 (A - C), .int .u64 (B - D)]) ∧ Fr w w' (fun _ => False) := by
  have t1 : ¬ B < D := by omega
  have hz2 : (A - C != 0) = false := by simp only [bne, hz]; rfl
  go_enter Try.func49, Try.ntmps49
  go_wp2_with fail
  refine (HAB.out _).mono ?_
  rintro e w1 ⟨rfl, hf⟩
  obtain ⟨hc1, hc2⟩ := fr_rules hf
  have hz1 : w.heap.size + 1 + 1 < w1.heap.size := by have := hf.size; simp at this; omega
  have HF := hid ((((alloc_fr w _ _).alloc _).alloc _).trans hf)
  clear hf HAB
  go_wp2_with fail
  exact bodyPost_ret (v := .agg #[.bool (B - D != 0), .int .u64 (A - C), .int .u64 (B - D)]) (by simp [results, Try.results49, go_sem, hc1]) rfl ⟨rfl, ((HF.out.setCell (fun h => by simp at h; omega) _).setCell (fun h => by simp at h; omega) _).setCell (fun h => by simp at h; omega) _⟩
set_option maxHeartbeats 2000000 in
theorem plus_diff_t_np (A B C D : Int) (a1 : 0 ≤ A) (a2 : A ≤ 9223372036854775807) (c1 : 0 ≤ C) (c2 : C ≤ 9223372036854775807) (b1 : 0 ≤ B) (b2 : B ≤ 18446744073709551615) (d1 : 0 ≤ D) (d2 : D ≤ 18446744073709551615) (hc : D ≤ B) (hAC : C ≤ A) (HAB : Hid (∀ W : World, Calls Try.prog 81 #[.agg #[.bool false, .int .u64 C, .int .u64 D], .agg #[.bool true, .int .u64 A, .int .u64 B]] W fun e w' => e = .returned (.bool false) ∧ Fr W w' (fun _ => False))) (hz : (A - C == 0) = false) (w : World) :
    Calls Try.prog 49 #[.agg #[.bool true, .int .u64 A, .int .u64 B], .agg #[.bool false, .int .u64 C, .int .u64 D]] w fun e w' => e = .returned (.agg #[.bool (true), .int .u64 (A - C), .int .u64 (B - D)]) ∧ Fr w w' (fun _ => False) := by
  have t1 : ¬ B < D := by omega
  have hz2 : (A - C != 0) = true := by simp only [bne, hz]; rfl
  go_enter Try.func49, Try.ntmps49
  go_wp2_with fail
  refine (HAB.out _).mono ?_
  rintro e w1 ⟨rfl, hf⟩
  obtain ⟨hc1, hc2⟩ := fr_rules hf
  have hz1 : w.heap.size + 1 + 1 < w1.heap.size := by have := hf.size; simp at this; omega
  have HF := hid ((((alloc_fr w _ _).alloc _).alloc _).trans hf)
  clear hf HAB
  go_wp2_with fail
  exact bodyPost_ret (v := .agg #[.bool (true), .int .u64 (A - C), .int .u64 (B - D)]) (by simp [results, Try.results49, go_sem, hc1]) rfl ⟨rfl, ((HF.out.setCell (fun h => by simp at h; omega) _).setCell (fun h => by simp at h; omega) _).setCell (fun h => by simp at h; omega) _⟩
set_option maxHeartbeats 2000000 in
theorem plus_diff_t_cz (A B C D E : Int) (a1 : 0 ≤ A) (a2 : A ≤ 9223372036854775807) (c1 : 0 ≤ C) (c2 : C ≤ 9223372036854775807) (hw : IntKind.u64.wrap (B - D) = E) (hE : B < D) (hAC : C < A) (HAB : Hid (∀ W : World, Calls Try.prog 81 #[.agg #[.bool false, .int .u64 C, .int .u64 D], .agg #[.bool true, .int .u64 A, .int .u64 B]] W fun e w' => e = .returned (.bool false) ∧ Fr W w' (fun _ => False))) (hz : (A - C - 1 == 0) = true) (w : World) :
    Calls Try.prog 49 #[.agg #[.bool true, .int .u64 A, .int .u64 B], .agg #[.bool false, .int .u64 C, .int .u64 D]] w fun e w' => e = .returned (.agg #[.bool (E != 0), .int .u64 (A - C - 1), .int .u64 (E)]) ∧ Fr w w' (fun _ => False) := by
  have hz2 : (A - C - 1 != 0) = false := by simp only [bne, hz]; rfl
  go_enter Try.func49, Try.ntmps49
  go_wp2_with fail
  refine (HAB.out _).mono ?_
  rintro e w1 ⟨rfl, hf⟩
  obtain ⟨hc1, hc2⟩ := fr_rules hf
  have hz1 : w.heap.size + 1 + 1 < w1.heap.size := by have := hf.size; simp at this; omega
  have HF := hid ((((alloc_fr w _ _).alloc _).alloc _).trans hf)
  clear hf HAB
  go_wp2_with fail
  exact bodyPost_ret (v := .agg #[.bool (E != 0), .int .u64 (A - C - 1), .int .u64 (E)]) (by simp [results, Try.results49, go_sem, hc1]) rfl ⟨rfl, ((HF.out.setCell (fun h => by simp at h; omega) _).setCell (fun h => by simp at h; omega) _).setCell (fun h => by simp at h; omega) _⟩
set_option maxHeartbeats 2000000 in
theorem plus_diff_t_cp (A B C D E : Int) (a1 : 0 ≤ A) (a2 : A ≤ 9223372036854775807) (c1 : 0 ≤ C) (c2 : C ≤ 9223372036854775807) (hw : IntKind.u64.wrap (B - D) = E) (hE : B < D) (hAC : C < A) (HAB : Hid (∀ W : World, Calls Try.prog 81 #[.agg #[.bool false, .int .u64 C, .int .u64 D], .agg #[.bool true, .int .u64 A, .int .u64 B]] W fun e w' => e = .returned (.bool false) ∧ Fr W w' (fun _ => False))) (hz : (A - C - 1 == 0) = false) (w : World) :
    Calls Try.prog 49 #[.agg #[.bool true, .int .u64 A, .int .u64 B], .agg #[.bool false, .int .u64 C, .int .u64 D]] w fun e w' => e = .returned (.agg #[.bool (true), .int .u64 (A - C - 1), .int .u64 (E)]) ∧ Fr w w' (fun _ => False) := by
  have hz2 : (A - C - 1 != 0) = true := by simp only [bne, hz]; rfl
  go_enter Try.func49, Try.ntmps49
  go_wp2_with fail
  refine (HAB.out _).mono ?_
  rintro e w1 ⟨rfl, hf⟩
  obtain ⟨hc1, hc2⟩ := fr_rules hf
  have hz1 : w.heap.size + 1 + 1 < w1.heap.size := by have := hf.size; simp at this; omega
  have HF := hid ((((alloc_fr w _ _).alloc _).alloc _).trans hf)
  clear hf HAB
  go_wp2_with fail
  exact bodyPost_ret (v := .agg #[.bool (true), .int .u64 (A - C - 1), .int .u64 (E)]) (by simp [results, Try.results49, go_sem, hc1]) rfl ⟨rfl, ((HF.out.setCell (fun h => by simp at h; omega) _).setCell (fun h => by simp at h; omega) _).setCell (fun h => by simp at h; omega) _⟩
set_option maxHeartbeats 2000000 in
theorem plus_diff_f_n (A B C D : Int) (a1 : 0 ≤ A) (a2 : A ≤ 9223372036854775807) (c1 : 0 ≤ C) (c2 : C ≤ 9223372036854775807) (b1 : 0 ≤ B) (b2 : B ≤ 18446744073709551615) (d1 : 0 ≤ D) (d2 : D ≤ 18446744073709551615) (hc : D ≤ B) (hAC : C ≤ A) (HAB : Hid (∀ W : World, Calls Try.prog 81 #[.agg #[.bool true, .int .u64 C, .int .u64 D], .agg #[.bool false, .int .u64 A, .int .u64 B]] W fun e w' => e = .returned (.bool false) ∧ Fr W w' (fun _ => False))) (w : World) :
    Calls Try.prog 49 #[.agg #[.bool false, .int .u64 A, .int .u64 B], .agg #[.bool true, .int .u64 C, .int .u64 D]] w fun e w' => e = .returned (.agg #[.bool (false), .int .u64 (A - C), .int .u64 (B - D)]) ∧ Fr w w' (fun _ => False) := by
  have t1 : ¬ B < D := by omega
  go_enter Try.func49, Try.ntmps49
  go_wp2_with fail
  refine (HAB.out _).mono ?_
  rintro e w1 ⟨rfl, hf⟩
  obtain ⟨hc1, hc2⟩ := fr_rules hf
  have hz1 : w.heap.size + 1 + 1 < w1.heap.size := by have := hf.size; simp at this; omega
  have HF := hid ((((alloc_fr w _ _).alloc _).alloc _).trans hf)
  clear hf HAB
  go_wp2_with fail
  exact bodyPost_ret (v := .agg #[.bool (false), .int .u64 (A - C), .int .u64 (B - D)]) (by simp [results, Try.results49, go_sem, hc1]) rfl ⟨rfl, ((HF.out.setCell (fun h => by simp at h; omega) _).setCell (fun h => by simp at h; omega) _).setCell (fun h => by simp at h; omega) _⟩
set_option maxHeartbeats 2000000 in
theorem plus_diff_f_c (A B C D E : Int) (a1 : 0 ≤ A) (a2 : A ≤ 9223372036854775807) (c1 : 0 ≤ C) (c2 : C ≤ 9223372036854775807) (hw : IntKind.u64.wrap (B - D) = E) (hE : B < D) (hAC : C < A) (HAB : Hid (∀ W : World, Calls Try.prog 81 #[.agg #[.bool true, .int .u64 C, .int .u64 D], .agg #[.bool false, .int .u64 A, .int .u64 B]] W fun e w' => e = .returned (.bool false) ∧ Fr W w' (fun _ => False))) (w : World) :
    Calls Try.prog 49 #[.agg #[.bool false, .int .u64 A, .int .u64 B], .agg #[.bool true, .int .u64 C, .int .u64 D]] w fun e w' => e = .returned (.agg #[.bool (false), .int .u64 (A - C - 1), .int .u64 (E)]) ∧ Fr w w' (fun _ => False) := by
  go_enter Try.func49, Try.ntmps49
  go_wp2_with fail
  refine (HAB.out _).mono ?_
  rintro e w1 ⟨rfl, hf⟩
  obtain ⟨hc1, hc2⟩ := fr_rules hf
  have hz1 : w.heap.size + 1 + 1 < w1.heap.size := by have := hf.size; simp at this; omega
  have HF := hid ((((alloc_fr w _ _).alloc _).alloc _).trans hf)
  clear hf HAB
  go_wp2_with fail
  exact bodyPost_ret (v := .agg #[.bool (false), .int .u64 (A - C - 1), .int .u64 (E)]) (by simp [results, Try.results49, go_sem, hc1]) rfl ⟨rfl, ((HF.out.setCell (fun h => by simp at h; omega) _).setCell (fun h => by simp at h; omega) _).setCell (fun h => by simp at h; omega) _⟩
end Go.Proofs.Ytbhhpkbiflolfaa.A
