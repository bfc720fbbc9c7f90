/- The law PaneCounts: arithmetic and its walk. -/
import Derived.Test.YtfdkinghcalhfaaPMore
namespace Go.Proofs.Ytfdkinghcalhfaa
open Go.RowKit

theorem mul_tmod (k d : Int) : (k * d).tmod d = 0 := Int.mul_tmod_left k d

/-- What stands in PaneCounts: the view, both rows. -/
structure CI (w wx : World) (s d l t : Int) (b1 b2 : Nat) : Prop where
  vf : VF w s d l wx
  r1 : RowV wx b1 (iv (startsL s d t))
  r2 : RowV wx b2 (iv (startsL s d (t + d)))
theorem CI.step {w wx wy : World} {s d l t : Int} {b1 b2 : Nat} (h : CI w wx s d l t b1 b2) (hf : Fr wx wy (fun _ => False)) : CI w wy s d l t b1 b2 := ⟨h.vf.step hf, h.r1.fr hf (fun h => h), h.r2.fr hf (fun h => h)⟩

/-- The cells that one round of PaneCounts looks at. -/
theorem counts_at {wx : World} {s d l T : Int} {b1 b2 : Nat} {i : Nat} (h : OkV s d l) (hi : i < numP s d T) (h1 : RowV wx b1 (iv (startsL s d T))) (h2 : RowV wx b2 (iv (startsL s d (T + d)))) :
    ∃ y : Int, wx.cell? ⟨b1, i, none⟩ = some (.int .i64 y) ∧ wx.cell? ⟨b2, i, none⟩ = some (.int .i64 (y + d)) ∧ y.tmod d = 0 ∧ T < y + s ∧ y ≤ T ∧ (0 < i → wx.cell? ⟨b1, i - 1, none⟩ = some (.int .i64 (y - d))) := by
  have hL1 := startsL_length s d T
  have hL2 := (startsL_length s d (T + d)).trans (numP_later h.d1)
  have hmem : (oldK s d T + (i : Int)) * d ∈ startsL s d T := by
    simp only [startsL, List.mem_map, List.mem_range]
    exact ⟨i, hi, rfl⟩
  obtain ⟨_, _, hb1, hb2⟩ := (startsL_mem h.s1 h.d1).1 hmem
  refine ⟨(oldK s d T + (i : Int)) * d, ?_, ?_, mul_tmod _ _, hb2, hb1, fun h0 => ?_⟩
  · rw [h1.cell, iv_get _ i (by omega), startsL_get hi]
  · rw [h2.cell, iv_get _ i (by omega), startsL_get (by rw [numP_later h.d1]; exact hi), oldK_later h.d1]
    congr 2
    rw [show oldK s d T + 1 + (i : Int) = oldK s d T + i + 1 by omega, Int.add_mul _ 1, Int.one_mul]
  · rw [h1.cell, iv_get _ (i - 1) (by omega), startsL_get (by omega)]
    congr 2
    rw [show oldK s d T + ((i - 1 : Nat) : Int) = oldK s d T + i - 1 by omega, Int.sub_mul _ 1, Int.one_mul]

set_option maxHeartbeats 4000000 in
theorem paneCounts_walk (s d l t : Int) (_ : fits s) (_ : fits d) (_ : fits l) (_ : fits t) (w : World) : Calls Try.prog 8 #[.agg #[.int .i64 s, .int .i64 d, .int .i64 l], .int .i64 t] w fun e w' => e = .returned (.bool true) ∧ Fr w w' (fun _ => False) := by
  by_cases h : OkV s d l
  · have HR := hid (fun W : World => right_ok h W)
    have HW := hid (fun W : World => within_any t W)
    obtain ⟨hT1, hT2⟩ := within_bd t
    generalize t.tmod 576460752303423488 = T at *
    have hs1 := h.s1
    have hs2 := h.s2
    have hd1 := h.d1
    have hd2 := h.d2
    have HS1 := hid (fun W : World => starts_ok (t := T) h (by unfold Ti; omega) W)
    have HS2 := hid (fun W : World => starts_ok (t := T + d) h (by unfold Ti; omega) W)
    have HL1 := hid (startsL_length s d T)
    have HL2 := hid ((startsL_length s d (T + d)).trans (numP_later hd1))
    simp only [HL1.out] at HS1
    simp only [HL2.out] at HS2
    have HN := hid (numP_count (t := T) hs1 hd1)
    have HN64 := hid (numP_le (t := T) h.sd h.d1)
    have HV := hid h
    have hd0 : ¬ d = 0 := by omega
    clear h
    go_enter Try.func8, Try.ntmps8
    go_wp2_with fail
    refine (HR.out _).mono ?_
    rintro e w1 ⟨rfl, hf1⟩
    have HA1 := hid ((VF.new w s d l).step hf1)
    clear hf1
    obtain ⟨c0, c1, c2⟩ := HA1.out.vw.cells
    have hlt := HA1.out.vw.lt
    go_wp2_with fail
    refine (HW.out _).mono ?_
    rintro e w1' ⟨rfl, hw1⟩
    subst hw1
    go_wp2_with fail
    refine (HS1.out _).mono ?_
    rintro e w2 ⟨b1, rfl, hb1, hr1, hf2⟩
    have HA2 := hid (HA1.out.step hf2)
    have HR1 := hid hr1
    clear hf2 hr1 hb1 HA1 c0 c1 c2 hlt
    obtain ⟨c0, c1, c2⟩ := HA2.out.vw.cells
    have hlt := HA2.out.vw.lt
    go_wp2_with fail
    refine (HS2.out _).mono ?_
    rintro e w3 ⟨b2, rfl, hb2, hr2, hf3⟩
    have HC3 : Hid (CI w w3 s d l T b1 b2) := ⟨HA2.out.step hf3, HR1.out.fr hf3 (fun h => h), hr2⟩
    clear hf3 hr2 hb2 HA2 HR1 c0 c1 c2 hlt
    obtain ⟨c0, c1, c2⟩ := HC3.out.vf.vw.cells
    have hlt := HC3.out.vf.vw.lt
    have hN64 := HN64.out
    clear HS1 HS2 HR HW
    have hdv : 0 ≤ s / d := Int.ediv_nonneg (by omega) (by omega)
    have hdv2 : s / d ≤ s := Int.ediv_le_self _ (by omega)
    have HTM : s.tmod d = s % d := Int.tmod_eq_emod_of_nonneg (by omega)
    generalize hn : numP s d T = n at *
    have HNN := hid hn
    clear hn
    have hcase : ((n : Int) = s / d ∧ ((n : Int) != s / d) = false) ∨ (((n : Int) != s / d) = true ∧ ((n : Int) != s / d + 1) = false ∧ (s % d == 0) = false) := by
      rcases HN.out with h | ⟨h1, h2⟩
      · left
        simp [h]
      · right
        simp [h1, h2]
        omega
    clear HN HN64
    rcases hcase with ⟨e1, e2⟩ | ⟨e2, e3, e4⟩
    all_goals
      try clear e1
      go_wp2_with fail
      go_loopg [10] n (fun g s10 wx => ∃ i : Nat, s10 = .int .i64 (i : Int) ∧ i + g = n ∧ Hid (CI w wx s d l T b1 b2))
      case atStart => exact ⟨0, rfl, by omega, HC3⟩
      case round =>
        obtain ⟨i, rfl, hg, HCI⟩ := hrel
        clear HC3 c0 c1 c2 hlt
        obtain ⟨c0, c1, c2⟩ := HCI.out.vf.vw.cells
        have hlt := HCI.out.vf.vw.lt
        cases gk with
        | zero =>
          have t1 : ¬ (i : Int) < (n : Int) := by omega
          clear hg
          go_wp2_with fail
          refine (head_any _).mono ?_
          rintro e w4 ⟨rfl, hf4⟩
          have HF4 := hid (HCI.out.vf.fr.trans hf4)
          clear hf4
          go_wp2_with fail
          go_ret
          exact ⟨rfl, HF4.out⟩
        | succ g =>
          have hi : i < n := by omega
          have t1 : (i : Int) < (n : Int) := by omega
          have HG := hid hg
          clear hg
          obtain ⟨y, hy1, hy2, hy3, hy4, hy5, hy6⟩ := counts_at (i := i) HV.out (by rw [HNN.out]; exact hi) HCI.out.r1 HCI.out.r2
          have hw1 : IntKind.i64.wrap (y + d) = y + d := wrap_fit (by unfold fits; omega)
          rcases Nat.eq_zero_or_pos i with hz | hz
          · have t3 : decide (0 < i) = false := by simp; omega
            have HZ := hid hz
            clear hy6 hz
            go_wp2_with fail
            go_quiet (fail)
            go_wp2_with fail
            go_roundg g
            case measure => omega
            case rel => exact ⟨i + 1, by go_num, by have := HG.out; omega, HCI.out.step ((Fr.refl _ _).drewN _)⟩
          · have hy7 := hy6 hz
            have hwi : IntKind.i64.wrap ((i : Int) - 1) = ((i - 1 : Nat) : Int) := by rw [wrap_fit (by unfold fits; omega)]; omega
            have hw2 : IntKind.i64.wrap (y - d + d) = y := by rw [wrap_fit (by unfold fits; omega)]; omega
            have t3 : decide (0 < i) = true := by simpa using hz
            clear hy6 hz
            go_wp2_with fail
            go_quiet (fail)
            go_wp2_with fail
            go_roundg g
            case measure => omega
            case rel => exact ⟨i + 1, by go_num, by have := HG.out; omega, HCI.out.step ((Fr.refl _ _).drewN _)⟩
  · have HR := hid (fun W : World => right_bad h W)
    have HC := hid (fun W : World => check_bad h W)
    clear h
    go_enter Try.func8, Try.ntmps8
    go_wp2_with fail
    refine (HR.out _).mono ?_
    rintro e w1 ⟨rfl, hf1⟩
    have HA1 := hid ((VF.new w s d l).step hf1)
    clear hf1
    obtain ⟨c0, c1, c2⟩ := HA1.out.vw.cells
    have hlt := HA1.out.vw.lt
    go_wp2_with fail
    refine (HC.out _).mono ?_
    rintro e w2 ⟨rfl, hf2⟩
    have HF2 := hid (HA1.out.fr.trans hf2)
    clear hf2
    go_wp2_with fail
    refine (head_any _).mono ?_
    rintro e w3 ⟨rfl, hf3⟩
    have HF3 := hid (HF2.out.trans hf3)
    clear hf3
    go_wp2_with fail
    go_ret
    exact ⟨rfl, HF3.out⟩
end Go.Proofs.Ytfdkinghcalhfaa
