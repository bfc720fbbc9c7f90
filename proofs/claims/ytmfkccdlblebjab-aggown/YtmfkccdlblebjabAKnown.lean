/- agg.Right, and the law's known(): walks. -/
import Derived.Test.YtmfkccdlblebjabARight
namespace Go.Proofs.Ytmfkccdlblebjab
open Go.RowKit

set_option maxHeartbeats 1000000 in
theorem right_any (a : Ag) (ha : a.ok) (w : World) :
    Calls Try.prog 9 #[.agg #[.int .i64 a.c, .int .i64 a.s, .int .i64 a.lo, .int .i64 a.hi]] w fun e w' =>
      e = .returned (.bool (rightB a.c a.s a.lo a.hi)) ∧ Fr w w' (fun _ => False) := by
  by_cases h1 : a.c < 0
  · have hr : rightB a.c a.s a.lo a.hi = false := by unfold rightB; rw [if_pos (by omega)]; simp; omega
    rw [hr]
    clear hr
    go_enter Try.func9, Try.ntmps9
    go_wp2
    go_ret
    exact ⟨rfl, alloc_fr _ _ _⟩
  by_cases h2 : a.c = 0
  · have hr : rightB a.c a.s a.lo a.hi = decide (a.s = 0 ∧ a.lo = 0 ∧ a.hi = 0) := by unfold rightB; rw [if_pos (by omega), h2]; simp
    rw [hr, h2]
    clear hr h1 h2 ha
    go_enter Try.func9, Try.ntmps9
    go_wp2
    all_goals (go_ret; refine ⟨ret_bool ?_, alloc_fr _ _ _⟩; simp [*])
  by_cases h3 : a.c = 1
  · have hr : rightB a.c a.s a.lo a.hi = decide (a.s = a.lo ∧ a.s = a.hi) := by unfold rightB; rw [if_neg (by omega), if_pos h3]
    rw [hr, h3]
    clear hr h1 h2 h3 ha
    by_cases h4 : a.s = a.lo
    · have h4b : (a.s == a.lo) = true := by simpa using h4
      have H4 := hid h4
      clear h4
      go_enter Try.func9, Try.ntmps9
      go_wp2
      all_goals (go_ret; refine ⟨ret_bool ?_, alloc_fr _ _ _⟩)
      all_goals (have := H4.out; rw [Bool.eq_iff_iff]; simp; try omega)
    · have h4b : (a.s == a.lo) = false := by simpa using h4
      have H4 := hid h4
      clear h4
      go_enter Try.func9, Try.ntmps9
      go_wp2
      all_goals (go_ret; refine ⟨ret_bool ?_, alloc_fr _ _ _⟩)
      all_goals (have := H4.out; rw [eq_comm, decide_eq_false_iff_not]; omega)
  have hc : ¬ a.c ≤ 0 := by omega
  have hr : rightB a.c a.s a.lo a.hi = decide (a.lo ≤ a.hi ∧ (a.c - 2) * a.lo + a.lo + a.hi ≤ a.s ∧ a.s ≤ (a.c - 2) * a.hi + a.lo + a.hi) := by unfold rightB; rw [if_neg hc, if_neg h3]
  rw [hr]
  clear hr
  by_cases h4 : a.lo ≤ a.hi
  · have HS := hid (fun W : World => sumMayBe_any a ha (by omega) W)
    have H4 := hid h4
    have h5 : decide (a.lo ≤ a.hi) = true := by simpa using h4
    have h6 : (a.c == 0) = false := by simpa using h2
    have h7 : (a.c == 1) = false := by simpa using h3
    clear h2 h3 h4
    go_enter Try.func9, Try.ntmps9
    go_wp2_with fail
    refine (HS.out _).mono ?_
    rintro e w1 ⟨rfl, hf⟩
    have HF := hid hf
    clear hf
    go_wp2_with fail
    go_ret
    refine ⟨ret_bool ?_, (alloc_fr _ _ _).trans HF.out⟩
    have := H4.out
    rw [Bool.eq_iff_iff]
    simp [this]
  · have h5 : decide (a.lo ≤ a.hi) = false := by simpa using h4
    have h6 : (a.c == 0) = false := by simpa using h2
    have h7 : (a.c == 1) = false := by simpa using h3
    clear h2 h3 h4
    go_enter Try.func9, Try.ntmps9
    go_wp2_with fail
    go_ret
    exact ⟨rfl, alloc_fr _ _ _⟩

theorem lit_is (w : World) : Is (w.alloc (.cells #[.int .i64 3, .int .i64 (-5), .int .i64 3] 2)) (.slice (some ⟨w.heap.size, 0, none⟩) 3 3) [3, -5, 3] := by
  refine ⟨_, _, rfl, by simp, fun x hx => ?_, fun _ => ⟨w.heap.size, 0, rfl, fun i hi => ?_⟩⟩
  · simp at hx
    rcases hx with rfl | rfl | rfl <;> decide
  · have hb : (w.alloc (.cells #[.int .i64 3, .int .i64 (-5), .int .i64 3] 2)).heap[w.heap.size]? = some (.cells #[.int .i64 3, .int .i64 (-5), .int .i64 3] 2 (0, 0)) := heap_last _ _ _ rfl
    match i, hi with
    | 0, _ => rw [cell_of_row _ _ _ _ _ (0, 0) hb]; rfl
    | 1, _ => rw [cell_of_row _ _ _ _ _ (0, 0) hb]; rfl
    | 2, _ => rw [cell_of_row _ _ _ _ _ (0, 0) hb]; rfl

set_option maxHeartbeats 1000000 in
theorem known_any (w : World) : Calls Try.prog 7 #[] w fun e w' => e = .returned (.bool true) ∧ Fr w w' (fun _ => False) := by
  have f62 : fits 4611686018427387904 := by decide
  have HAdd := hid (fun W : World => add_over 4611686018427387904 4611686018427387904 f62 f62 (by decide) W)
  have HMul := hid (fun W : World => mul_ok 4294967296 1073741824 (by decide) (by decide) (by decide) W)
  have HFold := hid (fun W : World => fold_any _ _ _ (lit_is W))
  have HR1 := hid (fun W : World => right_any ⟨3, 1, -5, 3⟩ ⟨by decide, by decide, by decide, by decide⟩ W)
  have HR2 := hid (fun W : World => right_any ⟨0, 0, 0, 1⟩ ⟨by decide, by decide, by decide, by decide⟩ W)
  rw [show foldE Ag.zero [3, -5, 3] = .ok ⟨3, 1, -5, 3⟩ from rfl] at HFold
  simp only [show rightB 3 1 (-5) 3 = true from by decide] at HR1
  simp only [show rightB 0 0 0 1 = false from by decide] at HR2
  clear f62
  go_enter Try.func7, Try.ntmps7
  go_wp2_with fail
  refine (HAdd.out _).mono ?_
  rintro e w1 ⟨rfl, rfl⟩
  unfold overV overB
  go_wp2_with fail
  refine (HMul.out _).mono ?_
  rintro e w2 ⟨rfl, hf2⟩
  have HF2 := hid ((alloc_fr w _ _).trans hf2)
  clear hf2
  go_wp2_with fail
  refine (HFold.out _).mono ?_
  rintro e w3 ⟨hf3, rfl⟩
  have HF3 := hid ((HF2.out.alloc _).trans hf3)
  clear hf3
  go_wp2_with fail
  refine (HR1.out _).mono ?_
  rintro e w4 ⟨rfl, hf4⟩
  have HF4 := hid ((HF3.out.alloc _).trans hf4)
  clear hf4
  go_wp2_with fail
  refine (HR2.out _).mono ?_
  rintro e w5 ⟨rfl, hf5⟩
  have HF5 := hid (HF4.out.trans hf5)
  clear hf5
  go_wp2_with fail
  go_ret
  exact ⟨rfl, HF5.out⟩
end Go.Proofs.Ytmfkccdlblebjab
