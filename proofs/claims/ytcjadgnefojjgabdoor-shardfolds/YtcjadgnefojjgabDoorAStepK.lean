/- agg.Add, join, Put where nothing is too great: walks; that a step keeps an aggregate right. -/
import Derived.Test.YtcjadgnefojjgabDoorARightK
namespace Go.Proofs.YtcjadgnefojjgabDoor.A
open Go.RowKit

theorem add_ok (a b : Int) (h : fits (a + b)) (w : World) : Calls Tryd.prog 30 #[.int .i64 a, .int .i64 b] w fun e w' => e = .returned (.tuple #[.int .i64 (a + b), .nilIface]) ∧ w' = w := by
  obtain ⟨h1, h2⟩ := h
  by_cases hz : b < 0
  · have hlt : a + b < a := by omega
    go_enter Tryd.func30, Tryd.ntmps30
    go_wp2
    go_ret2
    exact ⟨rfl, rfl⟩
  · have hlt : ¬ a + b < a := by omega
    go_enter Tryd.func30, Tryd.ntmps30
    go_wp2
    go_ret2
    exact ⟨rfl, rfl⟩
set_option maxHeartbeats 400000 in
theorem join_ok (c s lo hi c' s' lo' hi' : Int) (h1 : fits (c + c')) (h2 : fits (s + s')) (w : World) :
    Calls Tryd.prog 13 #[.agg #[.int .i64 c, .int .i64 s, .int .i64 lo, .int .i64 hi], .agg #[.int .i64 c', .int .i64 s', .int .i64 lo', .int .i64 hi']] w fun e w' =>
      e = .returned (.tuple #[.agg #[.int .i64 (c + c'), .int .i64 (s + s'), .int .i64 (min lo lo'), .int .i64 (max hi hi')], .nilIface]) ∧ Fr w w' (fun _ => False) := by
  go_enter Tryd.func13, Tryd.ntmps13
  go_wp2_with fail
  refine (add_ok c c' h1 _).mono ?_
  rintro e w1 ⟨rfl, rfl⟩
  go_wp2_with fail
  refine (add_ok s s' h2 _).mono ?_
  rintro e w1 ⟨rfl, rfl⟩
  go_wp2_with fail
  all_goals (first | rw [Int.min_eq_left (show lo ≤ lo' by omega)] | rw [Int.min_eq_right (show lo' ≤ lo by omega)])
  all_goals (first | rw [Int.max_eq_left (show hi' ≤ hi by omega)] | rw [Int.max_eq_right (show hi ≤ hi' by omega)])
  all_goals
    refine bodyPost_ret (v := .tuple #[.agg #[.int .i64 (c + c'), .int .i64 (s + s'), .int .i64 _, .int .i64 _], .nilIface]) (by simp [results, Tryd.results13, go_sem]) rfl ⟨rfl, (((alloc_fr _ _ _).alloc _).alloc _)⟩
/-- One value more, nothing being asked of its size. -/
def stepA (a : Ag) (x : Int) : Ag := if a.c = 0 then ⟨1, x, x, x⟩ else ⟨a.c + 1, a.s + x, min a.lo x, max a.hi x⟩
theorem right_one (x : Int) : rightB 1 x x x = true := by simp [rightB]
theorem right_two {c s lo hi : Int} (h : 2 ≤ c) : rightB c s lo hi = true ↔ (lo ≤ hi ∧ (c - 2) * lo + lo + hi ≤ s ∧ s ≤ (c - 2) * hi + lo + hi) := by
  unfold rightB
  rw [if_neg (by omega), if_neg (by omega)]
  simp
theorem right_put (c s lo hi x : Int) (hc : 1 ≤ c) (h : rightB c s lo hi = true) : rightB (c + 1) (s + x) (min lo x) (max hi x) = true := by
  rw [right_two (by omega)]
  by_cases h1 : c = 1
  · subst h1
    have : s = lo ∧ s = hi := by simpa [rightB] using h
    obtain ⟨e1, e2⟩ := this
    rw [← e1, ← e2]
    simp only [show (1 : Int) + 1 - 2 = 0 from by omega, Int.zero_mul]
    omega
  · rw [right_two (by omega)] at h
    obtain ⟨a1, a2, a3⟩ := h
    obtain ⟨k, hk⟩ : ∃ k, k = c - 2 := ⟨_, rfl⟩
    have hk0 : 0 ≤ k := by omega
    have e : c + 1 - 2 = k + 1 := by omega
    rw [← hk] at a2 a3
    rw [e]
    rcases Int.lt_or_le x lo with hx | hx
    · have m1 := Int.mul_le_mul_of_nonneg_left (show x ≤ lo by omega) hk0
      rw [Int.min_eq_right (by omega), Int.max_eq_left (by omega), Int.add_mul, Int.add_mul]
      omega
    · rw [Int.min_eq_left hx]
      rcases Int.lt_or_le hi x with hy | hy
      · have m1 := Int.mul_le_mul_of_nonneg_left (show hi ≤ x by omega) hk0
        rw [Int.max_eq_right (by omega), Int.add_mul, Int.add_mul]
        omega
      · rw [Int.max_eq_left hy, Int.add_mul, Int.add_mul]
        omega

set_option maxHeartbeats 400000 in
theorem aput_any (a : Ag) (x : Int) (h0 : a.c = 0 → a.s = 0) (h1 : fits (a.c + 1)) (h2 : fits (a.s + x)) (w : World) :
    Calls Tryd.prog 7 #[.agg #[.int .i64 a.c, .int .i64 a.s, .int .i64 a.lo, .int .i64 a.hi], .int .i64 x] w fun e w' => e = .returned (.tuple #[.agg #[.int .i64 (stepA a x).c, .int .i64 (stepA a x).s, .int .i64 (stepA a x).lo, .int .i64 (stepA a x).hi], .nilIface]) ∧ Fr w w' (fun _ => False) := by
  unfold stepA
  by_cases hc : a.c = 0
  · rw [if_pos hc]
    have hs := h0 hc
    have HJ := hid (fun W : World => join_ok a.c a.s x x 1 x x x h1 h2 W)
    rw [hc, hs, show (0 : Int) + 1 = 1 from rfl, Int.zero_add, Int.min_self, Int.max_self] at HJ
    rw [hc, hs]
    clear hc hs h0 h1 h2
    go_enter Tryd.func7, Tryd.ntmps7
    go_wp2_with fail
    refine (HJ.out _).mono ?_
    rintro e w1 ⟨rfl, hf⟩
    obtain ⟨hc1, hc2⟩ := fr_rules hf
    have hz : w.heap.size + 1 < w1.heap.size := by have := hf.size; simp at this; omega
    have HF := hid (((alloc_fr w _ _).alloc _).trans hf)
    clear hf HJ
    go_wp2_with fail
    exact bodyPost_ret (v := .tuple #[.agg #[.int .i64 1, .int .i64 x, .int .i64 x, .int .i64 x], .nilIface]) (by simp [results, Tryd.results7, go_sem, hc1]) rfl ⟨rfl, fr_set4 HF.out (by omega) _ _ _ _⟩
  · rw [if_neg hc]
    have HJ := hid (fun W : World => join_ok a.c a.s a.lo a.hi 1 x x x h1 h2 W)
    have t1 : (a.c == 0) = false := by simpa using hc
    dsimp only
    generalize min a.lo x = lo' at *
    generalize max a.hi x = hi' at *
    generalize a.c + 1 = c' at *
    generalize a.s + x = s' at *
    clear hc h0 h1 h2
    go_enter Tryd.func7, Tryd.ntmps7
    go_wp2_with fail
    refine (HJ.out _).mono ?_
    rintro e w1 ⟨rfl, hf⟩
    obtain ⟨hc1, hc2⟩ := fr_rules hf
    have hz : w.heap.size + 1 < w1.heap.size := by have := hf.size; simp at this; omega
    have HF := hid (((alloc_fr w _ _).alloc _).trans hf)
    clear hf HJ
    go_wp2_with fail
    exact bodyPost_ret (v := .tuple #[.agg #[.int .i64 c', .int .i64 s', .int .i64 lo', .int .i64 hi'], .nilIface]) (by simp [results, Tryd.results7, go_sem, hc1]) rfl ⟨rfl, fr_set4 HF.out (by omega) _ _ _ _⟩
end Go.Proofs.YtcjadgnefojjgabDoor.A
