/- pane.Check, End, Closed and the document's; the law's right, within: walks. -/
import Derived.Test.YtbhhpkbiflolfaaPBase
namespace Go.Proofs.Ytbhhpkbiflolfaa
open Go.RowKit

/-- A view that is not right: the first test that tells so. -/
theorem okV_not {s d l : Int} (h : ¬ OkV s d l) : s < 1 ∨ (¬ s < 1 ∧ 1099511627776 < s) ∨ (¬ s < 1 ∧ ¬ 1099511627776 < s ∧ d < 1) ∨ (¬ s < 1 ∧ ¬ 1099511627776 < s ∧ ¬ d < 1 ∧ 1099511627776 < d) ∨
    (¬ s < 1 ∧ ¬ 1099511627776 < s ∧ ¬ d < 1 ∧ ¬ 1099511627776 < d ∧ l < 0) ∨ (¬ s < 1 ∧ ¬ 1099511627776 < s ∧ ¬ d < 1 ∧ ¬ 1099511627776 < d ∧ ¬ l < 0 ∧ 1099511627776 < l) ∨
    (¬ s < 1 ∧ ¬ 1099511627776 < s ∧ ¬ d < 1 ∧ ¬ 1099511627776 < d ∧ ¬ l < 0 ∧ ¬ 1099511627776 < l ∧ 64 * d < s) := by
  rw [okV_iff] at h
  omega

theorem check_ok {s d l : Int} (h : OkV s d l) (w : World) : Calls Try.prog 66 #[.agg #[.int .i64 s, .int .i64 d, .int .i64 l]] w fun e w' => e = .returned (.int .i64 0) ∧ Fr w w' (fun _ => False) := by
  obtain ⟨h1, h2, h3, h4, h5, h6, h7⟩ := h
  have t1 : ¬ s < 1 := by omega
  have t2 : ¬ 1099511627776 < s := by omega
  have t3 : ¬ d < 1 := by omega
  have t4 : ¬ 1099511627776 < d := by omega
  have t5 : ¬ l < 0 := by omega
  have t6 : ¬ 1099511627776 < l := by omega
  have t7 : ¬ 64 * d < s := by omega
  go_enter Try.func66, Try.ntmps66
  go_wp2
  go_ret
  exact ⟨rfl, alloc_fr _ _ _⟩
theorem check_bad {s d l : Int} (h : ¬ OkV s d l) (w : World) : Calls Try.prog 66 #[.agg #[.int .i64 s, .int .i64 d, .int .i64 l]] w fun e w' => e = .returned (.int .i64 23) ∧ Fr w w' (fun _ => False) := by
  rcases okV_not h with t1 | ⟨t1, t2⟩ | ⟨t1, t2, t3⟩ | ⟨t1, t2, t3, t4⟩ | ⟨t1, t2, t3, t4, t5⟩ | ⟨t1, t2, t3, t4, t5, t6⟩ | ⟨t1, t2, t3, t4, t5, t6, t7⟩
  all_goals
    clear h
    go_enter Try.func66, Try.ntmps66
    go_wp2
    go_ret
    exact ⟨rfl, alloc_fr _ _ _⟩
theorem end_any (s d l x : Int) (h : fits (x + s)) (w : World) : Calls Try.prog 57 #[.agg #[.int .i64 s, .int .i64 d, .int .i64 l], .int .i64 x] w fun e w' => e = .returned (.int .i64 (x + s)) ∧ Fr w w' (fun _ => False) := by
  obtain ⟨h1, h2⟩ := h
  go_enter Try.func57, Try.ntmps57
  go_wp2
  go_ret
  exact ⟨rfl, alloc_fr _ _ _⟩
theorem closed_any (s d l x m : Int) (h : fits (x + s)) (h2 : fits (x + s + l)) (w : World) : Calls Try.prog 25 #[.agg #[.int .i64 s, .int .i64 d, .int .i64 l], .int .i64 x, .int .i64 m] w fun e w' => e = .returned (.bool (decide (x + s + l ≤ m))) ∧ Fr w w' (fun _ => False) := by
  have HE := hid (fun W : World => end_any s d l x h W)
  have hw := wrap_fit h2
  clear h h2
  go_enter Try.func25, Try.ntmps25
  go_wp2_with fail
  go_region_with (go_at_call 57; refine (HE.out _).mono ?_; rintro e w' ⟨rfl, hf⟩; have hr := (fr_rules hf).1; have hz := hf.size; have HF := hid hf; clear hf)
  all_goals go_wp2
  all_goals go_ret
  all_goals exact ⟨rfl, (alloc_fr _ _ _).drew.trans HF.out⟩
end Go.Proofs.Ytbhhpkbiflolfaa
