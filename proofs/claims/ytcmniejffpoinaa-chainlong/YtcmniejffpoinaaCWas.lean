/- was: a walk. -/
import Derived.Test.YtcmniejffpoinaaCKnown
import Derived.Test.YtcmniejffpoinaaCLongP
namespace Go.Proofs.Ytcmniejffpoinaa
open Go.RowKit

set_option maxHeartbeats 2000000 in
theorem was_any {base B : Nat} {v : Value} {L : List Vn} (e a d : Int) (w : World) (h : Ch w base B v L) (h0 : 0 ≤ e) (h1 : e ≤ 100000) (ha : 1 ≤ a) (ha5 : a ≤ 5) (hd : 2 ≤ d) (hd9 : d ≤ 100) (hok : wasOK L e a d) :
    Calls Try.prog 34 #[.pointer (some ⟨B, 0, none⟩), .int .i64 e, .int .i64 a, .int .i64 d] w fun r w' => r = .returned (.bool true) ∧ Fr w w' (fun _ => False) := by
  have HA := hid (at_any e w h)
  have HN := hid (fun (W : World) (hf : Fr w W (fun _ => False)) => newest_any W (h.step hf))
  have hnb := nw_fits h.good
  clear h
  have q0 : e.tdiv a = e / a := Int.tdiv_eq_ediv_of_nonneg h0
  have q1 : (nw L).e.tdiv a = (nw L).e / a := Int.tdiv_eq_ediv_of_nonneg hnb.1
  have b0 : 0 ≤ e / a := Int.ediv_nonneg h0 (by omega)
  have b1 : 0 ≤ (nw L).e / a := Int.ediv_nonneg hnb.1 (by omega)
  have b2 : e / a ≤ e := Int.ediv_le_self _ h0
  have b3 : (nw L).e / a ≤ (nw L).e := Int.ediv_le_self _ hnb.1
  obtain ⟨n0, n1, _, _⟩ := hnb
  unfold wasOK wi tell at hok
  generalize atL L e = x at *
  generalize nw L = y at *
  have z1 : ¬ a = 0 := by omega
  have z2 : ¬ d = 0 := by omega
  have z3 : ¬ a = -1 := by omega
  have z4 : ¬ d = -1 := by omega
  have HP := hid hok
  clear hok
  obtain ⟨xe, xt, xv⟩ := x
  obtain ⟨ye, yt, yv⟩ := y
  dsimp only at *
  generalize hi0 : e / a = i0 at *
  generalize hj0 : ye / a = j0 at *
  by_cases hcl : 0 < ye ∧ j0 < i0
  · have c1 : 0 < ye := hcl.1
    have c2 : j0 < i0 := hcl.2
    have hp := HP.out
    rw [if_pos hcl] at hp
    have q2 : j0.tmod d = j0 % d := Int.tmod_eq_emod_of_nonneg b1
    by_cases hde : j0 = 0 ∨ j0 % d = 0
    · rw [if_pos hde] at hp
      simp only [Prod.mk.injEq] at hp
      obtain ⟨rfl, rfl⟩ := hp
      clear hcl HP
      by_cases hz : j0 = 0
      · have t1 : (j0 == 0) = true := by simpa using hz
        clear hz hde
        go_enter Try.func34, Try.ntmps34
        go_wp2_with fail
        refine HA.out.mono ?_
        rintro r w1 ⟨rfl, hf1⟩
        have HF1 := hid hf1
        clear hf1
        go_wp2_with fail
        refine (HN.out _ HF1.out).mono ?_
        rintro r w2 ⟨rfl, hf2⟩
        have HF2 := hid (HF1.out.trans hf2)
        clear hf2
        go_wp2_with fail
        go_ret
        exact ⟨rfl, HF2.out⟩
      · have t1 : (j0 == 0) = false := by simpa using hz
        have t2 : (j0 % d == 0) = true := by simp; omega
        clear hz hde
        go_enter Try.func34, Try.ntmps34
        go_wp2_with fail
        refine HA.out.mono ?_
        rintro r w1 ⟨rfl, hf1⟩
        have HF1 := hid hf1
        clear hf1
        go_wp2_with fail
        refine (HN.out _ HF1.out).mono ?_
        rintro r w2 ⟨rfl, hf2⟩
        have HF2 := hid (HF1.out.trans hf2)
        clear hf2
        go_wp2_with fail
        go_ret
        exact ⟨rfl, HF2.out⟩
    · rw [if_neg hde] at hp
      have t1 : (j0 == 0) = false := by simp; omega
      have t2 : (j0 % d == 0) = false := by simp; omega
      simp only [Prod.mk.injEq] at hp
      obtain ⟨rfl, rfl⟩ := hp
      clear hcl HP hde
      go_enter Try.func34, Try.ntmps34
      go_wp2_with fail
      refine HA.out.mono ?_
      rintro r w1 ⟨rfl, hf1⟩
      have HF1 := hid hf1
      clear hf1
      go_wp2_with fail
      refine (HN.out _ HF1.out).mono ?_
      rintro r w2 ⟨rfl, hf2⟩
      have HF2 := hid (HF1.out.trans hf2)
      clear hf2
      go_wp2_with fail
      go_ret
      exact ⟨rfl, HF2.out⟩
  · by_cases c1 : 0 < ye
    · have c2 : ¬ j0 < i0 := fun h => hcl ⟨c1, h⟩
      have hp := HP.out
      rw [if_neg hcl] at hp
      have q2 : i0.tmod d = i0 % d := Int.tmod_eq_emod_of_nonneg b0
      by_cases hde : i0 = 0 ∨ i0 % d = 0
      · rw [if_pos hde] at hp
        simp only [Prod.mk.injEq] at hp
        obtain ⟨rfl, rfl⟩ := hp
        clear hcl HP
        by_cases hz : i0 = 0
        · have t1 : (i0 == 0) = true := by simpa using hz
          clear hz hde
          go_enter Try.func34, Try.ntmps34
          go_wp2_with fail
          refine HA.out.mono ?_
          rintro r w1 ⟨rfl, hf1⟩
          have HF1 := hid hf1
          clear hf1
          go_wp2_with fail
          refine (HN.out _ HF1.out).mono ?_
          rintro r w2 ⟨rfl, hf2⟩
          have HF2 := hid (HF1.out.trans hf2)
          clear hf2
          go_wp2_with fail
          go_ret
          exact ⟨rfl, HF2.out⟩
        · have t1 : (i0 == 0) = false := by simpa using hz
          have t2 : (i0 % d == 0) = true := by simp; omega
          clear hz hde
          go_enter Try.func34, Try.ntmps34
          go_wp2_with fail
          refine HA.out.mono ?_
          rintro r w1 ⟨rfl, hf1⟩
          have HF1 := hid hf1
          clear hf1
          go_wp2_with fail
          refine (HN.out _ HF1.out).mono ?_
          rintro r w2 ⟨rfl, hf2⟩
          have HF2 := hid (HF1.out.trans hf2)
          clear hf2
          go_wp2_with fail
          go_ret
          exact ⟨rfl, HF2.out⟩
      · rw [if_neg hde] at hp
        have t1 : (i0 == 0) = false := by simp; omega
        have t2 : (i0 % d == 0) = false := by simp; omega
        simp only [Prod.mk.injEq] at hp
        obtain ⟨rfl, rfl⟩ := hp
        clear hcl HP hde
        go_enter Try.func34, Try.ntmps34
        go_wp2_with fail
        refine HA.out.mono ?_
        rintro r w1 ⟨rfl, hf1⟩
        have HF1 := hid hf1
        clear hf1
        go_wp2_with fail
        refine (HN.out _ HF1.out).mono ?_
        rintro r w2 ⟨rfl, hf2⟩
        have HF2 := hid (HF1.out.trans hf2)
        clear hf2
        go_wp2_with fail
        go_ret
        exact ⟨rfl, HF2.out⟩
    · have hp := HP.out
      rw [if_neg hcl] at hp
      have q2 : i0.tmod d = i0 % d := Int.tmod_eq_emod_of_nonneg b0
      by_cases hde : i0 = 0 ∨ i0 % d = 0
      · rw [if_pos hde] at hp
        simp only [Prod.mk.injEq] at hp
        obtain ⟨rfl, rfl⟩ := hp
        clear hcl HP
        by_cases hz : i0 = 0
        · have t1 : (i0 == 0) = true := by simpa using hz
          clear hz hde
          go_enter Try.func34, Try.ntmps34
          go_wp2_with fail
          refine HA.out.mono ?_
          rintro r w1 ⟨rfl, hf1⟩
          have HF1 := hid hf1
          clear hf1
          go_wp2_with fail
          refine (HN.out _ HF1.out).mono ?_
          rintro r w2 ⟨rfl, hf2⟩
          have HF2 := hid (HF1.out.trans hf2)
          clear hf2
          go_wp2_with fail
          go_ret
          exact ⟨rfl, HF2.out⟩
        · have t1 : (i0 == 0) = false := by simpa using hz
          have t2 : (i0 % d == 0) = true := by simp; omega
          clear hz hde
          go_enter Try.func34, Try.ntmps34
          go_wp2_with fail
          refine HA.out.mono ?_
          rintro r w1 ⟨rfl, hf1⟩
          have HF1 := hid hf1
          clear hf1
          go_wp2_with fail
          refine (HN.out _ HF1.out).mono ?_
          rintro r w2 ⟨rfl, hf2⟩
          have HF2 := hid (HF1.out.trans hf2)
          clear hf2
          go_wp2_with fail
          go_ret
          exact ⟨rfl, HF2.out⟩
      · rw [if_neg hde] at hp
        have t1 : (i0 == 0) = false := by simp; omega
        have t2 : (i0 % d == 0) = false := by simp; omega
        simp only [Prod.mk.injEq] at hp
        obtain ⟨rfl, rfl⟩ := hp
        clear hcl HP hde
        go_enter Try.func34, Try.ntmps34
        go_wp2_with fail
        refine HA.out.mono ?_
        rintro r w1 ⟨rfl, hf1⟩
        have HF1 := hid hf1
        clear hf1
        go_wp2_with fail
        refine (HN.out _ HF1.out).mono ?_
        rintro r w2 ⟨rfl, hf2⟩
        have HF2 := hid (HF1.out.trans hf2)
        clear hf2
        go_wp2_with fail
        go_ret
        exact ⟨rfl, HF2.out⟩
end Go.Proofs.Ytcmniejffpoinaa
