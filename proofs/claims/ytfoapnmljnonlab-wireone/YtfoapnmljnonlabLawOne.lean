/- WireOne returns true, and its argument reads afterwards as before: for every bytes that can be read; no further conditions. -/
import Derived.Test.YtfoapnmljnonlabHead
import Derived.Test.YtfoapnmljnonlabRmore
import Derived.Test.YtfoapnmljnonlabFrame
import Derived.Test.YtfoapnmljnonlabArgs
import Derived.ProofKit
import Derived.OpenShut
import Derived.SizedLaws
import Derived.Below
import Derived.WalkSmall
namespace Go.Proofs.Ytfoapnmljnonlab
open Go.ChangeShapes Go.WideShapes Go.ChangeAt Go.RowKit
attribute [local go_sem ↓] Go.wp_at_zero Go.wp_at_succ

theorem oneOwn : ownKnob Try.prog.godebug = none := by kernel_rfl
theorem oneLaid : laidOutB Try.prog = true := by kernel_rfl
theorem Try.cells5 : Try.prog.cellsOf 5 = 1 := by kernel_rfl
theorem Try.bytes5 : Try.prog.bytesOf 5 = 1 := by kernel_rfl

theorem conv8 {W : World} {v : Value} {xs : List Nat} (h : Bs W v xs) : (convert 24 9 v).run Try.prog W = .ok (.string (str8 xs)) W :=
  run_str8 Try.underlying24 Try.underlying5 Try.underlying9 h

/-- What Num at the greatest bound tells: no fault of its own. -/
theorem rn_max (r : Nat × Nat × Nat × Nat) (on : Int) (p : Nat) (h : r.2.2.1 < 128 ^ 9) : rnE 9223372036854775807 r = (r.1 : Int) ∧ rnO on p 9223372036854775807 r = rOn on r ∧ (r.1 = 0 → rnV 9223372036854775807 r = (r.2.2.1 : Int)) := by
  have h2 : (r.2.2.1 : Int) ≤ 9223372036854775807 := by
    have : (128 : Nat) ^ 9 = 9223372036854775808 := by decide
    omega
  unfold rnE rnO rnV rOn
  by_cases h0 : r.1 = 0
  · simp [h0, h2]
  · simp [h0]

set_option maxHeartbeats 2000000 in
set_option maxRecDepth 100000 in
theorem one_walk (sv : Value) (xs : List Nat) (w : World) (hs : Bs w sv xs) (hb8 : ∀ j, xs.getD j 0 < 256) (hl : xs.length ≤ 140737488355328) :
    Calls Try.prog 4 #[sv] w fun e w' => e = .returned (.bool true) ∧ Below w.heap.size w w' := by
  obtain ⟨ao, cap, rfl⟩ := slice_shape hs
  have Hs := hid2 hs
  have HB8 := hid2 hb8
  have hlt9 := rb_lt xs 0 9 0 0 (by omega) (by decide)
  have hpl9 := rb_place xs 0 9 0 0 (Nat.zero_le _) (Nat.zero_le _)
  have H9 := hid2 (fun h => rb_one xs 9 (rb xs 0 9 0 0).2.2.1 (by omega) hb8 h)
  have F9 := hid2 (rb_fst xs 0 9 0 0)
  clear hs hb8
  go_enter Try.func4, Try.ntmps4
  go_wp2_with fail
  refine (read_any _ xs w Hs.out hl).mono ?_
  rintro e w1 ⟨R, vr, rfl, hR, hRn, hf1⟩
  have HF1 := hid2 hf1
  have HR1 := hid2 hR
  have hs1 := hf1.size
  clear hR hf1
  go_wp2_with fail
  refine (rnum_any w.heap.size R vr xs 0 0 9223372036854775807 w1 HR1.out (Nat.zero_le _) hl HB8.out).mono ?_
  rintro e w2 ⟨rfl, hw2⟩
  have hrn := rn_max (rb xs 0 9 0 0) 0 0 hlt9
  rw [hrn.1, hrn.2.1] at hw2
  have HV := hid2 hrn.2.2
  generalize rb xs 0 9 0 0 = r at *
  obtain ⟨r0, r1, r2, r3⟩ := r
  have HR2 := hid2 hw2.1
  have HF2 := hid2 hw2.2
  have hs2 := hw2.2.size
  simp only at hlt9 hpl9
  clear hw2 hrn HR1
  go_wp2_with fail
  refine (end_any w.heap.size R vr xs r3 (r0 : Int) (rOn 0 (r0, r1, r2, r3)) w2 HR2.out hpl9.2 hl).mono ?_
  rintro e w3 ⟨rfl, hw3⟩
  have HR3 := hid2 hw3.1
  have HF3 := hid2 hw3.2
  have hs3 := hw3.2.size
  clear hw3 HR2
  have HB3 := hid2 ((HF1.out.below (Nat.le_refl _) (fun _ h => h.elim)).trans ((HF2.out.trans HF3.out).below (by omega) (fun k h => by omega)))
  have Hs3 := hid2 ((Hs.out.fr HF1.out (fun _ _ h => h)).keep (w' := w3) (fun a j u ha hu => by
    have hlt := Hs.out.lt ha (by intro e; subst e; simp [by8] at hu)
    exact (HF2.out.trans HF3.out).block a (by omega) (by omega)))
  clear HF1 HF2 HF3
  by_cases hok : r0 = 0 ∧ r3 = xs.length
  · obtain ⟨rfl, rfl⟩ := hok
    have HX : Hid (sev 9 r2 = xs) := by
      have h1 : r1 = 0 := F9.out rfl
      subst h1
      exact H9.out rfl
    rw [HV.out rfl]
    have e1 : endE xs xs.length ((0 : Nat) : Int) = 0 := by simp [endE]
    rw [e1] at HR3
    clear e1 H9 F9 HV
    go_wp2_with (go_at_call 20; refine (err_ok w.heap.size R vr xs _ _ _ HR3.out).mono ?_; rintro e w4 ⟨rfl, hw4⟩; have hw4 := hw4.symm; subst hw4)
    refine (num_any w3.heap.size w3.heap.size _ [] (r2 : Int) _ (by omega) (by simp at hlt9; omega) (Wr.made w3) (by simp) (by simp)).mono ?_
    rintro e w4 ⟨rfl, v4, hW4, hf4, hn4⟩
    have HW4 : Hid (Wr 26 5 w4 w3.heap.size w3.heap.size v4 xs) := by
      rw [List.nil_append, numB, Int.toNat_natCast, HX.out] at hW4
      exact hW4
    have HB34 := hid2 (((Below.refl w3.heap.size w3).alloc (Nat.le_refl _) _).trans (wr_below hf4 (by simp) (Nat.le_refl _) (fun k h => by simp [Value.ownBlock] at h)))
    have HB4 := hid2 (HB3.out.trans (HB34.out.mono HB3.out.size))
    have Hs4 := hid2 (Hs3.out.fr (Fr.ofBelow (S := fun _ => False) HB34.out) (fun _ _ h => h))
    clear hW4 hf4 hn4 HB34
    have hq0 := conv8 (Hs4.out.fr (Fr.refl w4 (fun _ => False)).drew (fun _ _ h => h))
    have hr20 : ¬ (r2 : Int) < 0 := by omega
    obtain ⟨S, hS⟩ : ∃ S, S = str8 xs := ⟨_, rfl⟩
    have HSS := hid2 hS
    rw [← hS] at hq0
    clear hS
    go_wp2_with fail
    go_region_with (go_at_call 12; go_must (refine (bytes_any w3.heap.size w3.heap.size v4 xs _ ?_ hl).mono ?_; exact HW4.out.fr (Fr.refl w4 (fun _ => False)).drew (fun h => h) (fun _ _ h => h)); rintro e w5 ⟨v5, rfl, ho5, hf5⟩; obtain ⟨ao5, cap5, rfl⟩ := own_nil_shape ho5; have hc5 := conv8 (own_bs ho5); have hc6 := conv8 (Hs4.out.fr (hf5.ofDrew) (fun _ _ h => h)); have HB5 := hid2 (HB4.out.trans (hf5.ofDrew.below HB4.out.size (fun _ h => h.elim))); have Hs5 := hid2 (Hs4.out.fr (hf5.ofDrew) (fun _ _ h => h)); rw [← HSS.out] at hc5 hc6; clear ho5 hf5)
    all_goals
      go_wp2_with fail
      refine (read_any _ xs w5 Hs5.out hl).mono ?_
      rintro e w6 ⟨R6, vr6, rfl, hR6, hRn6, hf6⟩
      have HF6 := hid2 hf6
      have HR6 := hid2 hR6
      have hs6 := hf6.size
      clear hR6 hf6
      go_wp2_with fail
      refine (rint_any w5.heap.size R6 vr6 xs 0 0 w6 HR6.out (Nat.zero_le _) hl HB8.out).mono ?_
      rintro e w7 ⟨rfl, hw7⟩
      have hlt10 := rb_lt64 xs 0 10 0 0 (by omega) (fun _ => by decide)
      have hpl10 := rb_place xs 0 10 0 0 (Nat.zero_le _) (Nat.zero_le _)
      have H10 := hid2 (fun h => rb_one xs 10 (rb xs 0 10 0 0).2.2.1 (by omega) HB8.out h)
      have F10 := hid2 (rb_fst xs 0 10 0 0)
      generalize rb xs 0 10 0 0 = z at *
      obtain ⟨z0, z1, z2, z3⟩ := z
      have HR7 := hid2 hw7.1
      have HF7 := hid2 hw7.2
      have hs7 := hw7.2.size
      simp only at hlt10 hpl10
      clear hw7 HR6
      go_wp2_with fail
      refine (end_any w5.heap.size R6 vr6 xs z3 (z0 : Int) (rOn 0 (z0, z1, z2, z3)) w7 HR7.out hpl10.2 hl).mono ?_
      rintro e w8 ⟨rfl, hw8⟩
      have HR8 := hid2 hw8.1
      have HF8 := hid2 hw8.2
      have hs8 := hw8.2.size
      clear hw8 HR7
      have HB58 := hid2 ((HF6.out.below (Nat.le_refl _) (fun _ h => h.elim)).trans ((HF7.out.trans HF8.out).below (by omega) (fun k h => by omega)))
      have HB8b := hid2 (HB5.out.trans (HB58.out.mono HB5.out.size))
      have Hs8 := hid2 (Hs5.out.fr (Fr.ofBelow (S := fun _ => False) HB58.out) (fun _ _ h => h))
      clear HF6 HF7 HF8 HB58
      by_cases hok2 : z0 = 0 ∧ z3 = xs.length
      · obtain ⟨rfl, rfl⟩ := hok2
        have HX2 : Hid (sev 9 z2 = xs) := by
          have h1 : z1 = 0 := F10.out rfl
          subst h1
          exact H10.out rfl
        have hzb := zag_bd z2 hlt10
        have e1 : endE xs xs.length ((0 : Nat) : Int) = 0 := by simp [endE]
        rw [e1] at HR8
        have HZZ := hid2 (zig_zag z2)
        clear e1 H10 F10
        generalize zag z2 = zz at *
        go_wp2_with (go_at_call 20; refine (err_ok w5.heap.size R6 vr6 xs _ _ _ HR8.out).mono ?_; rintro e w9 ⟨rfl, hw9⟩; have hw9 := hw9.symm; subst hw9)
        refine (int_any w8.heap.size w8.heap.size _ [] zz _ hzb.1 hzb.2 (Wr.made w8) (by simp) (by simp)).mono ?_
        rintro e w9 ⟨rfl, v9, hW9, hf9, hn9⟩
        have HW9 : Hid (Wr 26 5 w9 w8.heap.size w8.heap.size v9 xs) := by
          rw [List.nil_append, intB, HZZ.out, HX2.out] at hW9
          exact hW9
        have HB89 := hid2 (((Below.refl w8.heap.size w8).alloc (Nat.le_refl _) _).trans (wr_below hf9 (by simp) (Nat.le_refl _) (fun k h => by simp [Value.ownBlock] at h)))
        have HB9 := hid2 (HB8b.out.trans (HB89.out.mono HB8b.out.size))
        have Hs9 := hid2 (Hs8.out.fr (Fr.ofBelow (S := fun _ => False) HB89.out) (fun _ _ h => h))
        clear hW9 hf9 hn9 HB89
        have hq9 := conv8 (Hs9.out.fr (Fr.refl w9 (fun _ => False)).drew (fun _ _ h => h))
        obtain ⟨S9, hS9⟩ : ∃ S, S = str8 xs := ⟨_, rfl⟩
        have HSS9 := hid2 hS9
        rw [← hS9] at hq9
        clear hS9
        go_wp2_with fail
        go_region_with (go_at_call 12; go_must (refine (bytes_any w8.heap.size w8.heap.size v9 xs _ ?_ hl).mono ?_; exact HW9.out.fr (Fr.refl w9 (fun _ => False)).drew (fun h => h) (fun _ _ h => h)); rintro e w10 ⟨v10, rfl, ho10, hf10⟩; obtain ⟨ao10, cap10, rfl⟩ := own_nil_shape ho10; have hc10 := conv8 (own_bs ho10); have hc11 := conv8 (Hs9.out.fr (hf10.ofDrew) (fun _ _ h => h)); have HB10 := hid2 (HB9.out.trans (hf10.ofDrew.below HB9.out.size (fun _ h => h.elim))); rw [← HSS9.out] at hc10 hc11; clear ho10 hf10)
        all_goals go_wp2_with (go_at_call 21; refine (head_any _).mono ?_; rintro e w11 ⟨rfl, hb11⟩; have HB11 := hid2 (HB10.out.trans (hb11.mono HB10.out.size)); clear hb11)
        all_goals go_ret
        all_goals exact ⟨rfl, HB11.out⟩
      · have hne : endE xs z3 (z0 : Int) ≠ 0 := by
          unfold endE
          split
          · decide
          · omega
        clear H10 F10
        generalize zag z2 = zz at *
        go_wp2_with (first
          | (go_at_call 20; refine (err_bad w5.heap.size R6 vr6 xs _ _ _ _ HR8.out hne).mono ?_; rintro e w9 ⟨rfl, _, hf9⟩; have HB9 := hid2 (HB8b.out.trans (hf9.below HB8b.out.size (fun _ h => h.elim))); clear hf9)
          | (go_at_call 21; refine (head_any _).mono ?_; rintro e w11 ⟨rfl, hb11⟩; have HB11 := hid2 (HB9.out.trans (hb11.mono HB9.out.size)); clear hb11))
        go_ret
        exact ⟨rfl, HB11.out⟩
  · have hne : endE xs r3 (r0 : Int) ≠ 0 := by
      unfold endE
      split
      · decide
      · omega
    clear H9 F9 HV
    generalize rnV 9223372036854775807 (r0, r1, r2, r3) = nn at *
    go_wp2_with fail
    refine (err_bad w.heap.size R vr xs _ _ _ _ HR3.out hne).mono ?_
    rintro e w5 ⟨rfl, _, hf5⟩
    have HB5 := hid2 (HB3.out.trans (hf5.below HB3.out.size (fun _ h => h.elim)))
    have Hs5 := hid2 (Hs3.out.fr hf5 (fun _ _ h => h))
    clear hf5
    go_wp2_with fail
    refine (read_any _ xs w5 Hs5.out hl).mono ?_
    rintro e w6 ⟨R6, vr6, rfl, hR6, hRn6, hf6⟩
    have HF6 := hid2 hf6
    have HR6 := hid2 hR6
    have hs6 := hf6.size
    clear hR6 hf6
    go_wp2_with fail
    refine (rint_any w5.heap.size R6 vr6 xs 0 0 w6 HR6.out (Nat.zero_le _) hl HB8.out).mono ?_
    rintro e w7 ⟨rfl, hw7⟩
    have hlt10 := rb_lt64 xs 0 10 0 0 (by omega) (fun _ => by decide)
    have hpl10 := rb_place xs 0 10 0 0 (Nat.zero_le _) (Nat.zero_le _)
    have H10 := hid2 (fun h => rb_one xs 10 (rb xs 0 10 0 0).2.2.1 (by omega) HB8.out h)
    have F10 := hid2 (rb_fst xs 0 10 0 0)
    generalize rb xs 0 10 0 0 = z at *
    obtain ⟨z0, z1, z2, z3⟩ := z
    have HR7 := hid2 hw7.1
    have HF7 := hid2 hw7.2
    have hs7 := hw7.2.size
    simp only at hlt10 hpl10
    clear hw7 HR6
    go_wp2_with fail
    refine (end_any w5.heap.size R6 vr6 xs z3 (z0 : Int) (rOn 0 (z0, z1, z2, z3)) w7 HR7.out hpl10.2 hl).mono ?_
    rintro e w8 ⟨rfl, hw8⟩
    have HR8 := hid2 hw8.1
    have HF8 := hid2 hw8.2
    have hs8 := hw8.2.size
    clear hw8 HR7
    have HB58 := hid2 ((HF6.out.below (Nat.le_refl _) (fun _ h => h.elim)).trans ((HF7.out.trans HF8.out).below (by omega) (fun k h => by omega)))
    have HB8b := hid2 (HB5.out.trans (HB58.out.mono HB5.out.size))
    have Hs8 := hid2 (Hs5.out.fr (Fr.ofBelow (S := fun _ => False) HB58.out) (fun _ _ h => h))
    clear HF6 HF7 HF8 HB58
    by_cases hok2 : z0 = 0 ∧ z3 = xs.length
    · obtain ⟨rfl, rfl⟩ := hok2
      have HX2 : Hid (sev 9 z2 = xs) := by
        have h1 : z1 = 0 := F10.out rfl
        subst h1
        exact H10.out rfl
      have hzb := zag_bd z2 hlt10
      have e1 : endE xs xs.length ((0 : Nat) : Int) = 0 := by simp [endE]
      rw [e1] at HR8
      have HZZ := hid2 (zig_zag z2)
      clear e1 H10 F10
      generalize zag z2 = zz at *
      go_wp2_with (go_at_call 20; refine (err_ok w5.heap.size R6 vr6 xs _ _ _ HR8.out).mono ?_; rintro e w9 ⟨rfl, hw9⟩; have hw9 := hw9.symm; subst hw9)
      refine (int_any w8.heap.size w8.heap.size _ [] zz _ hzb.1 hzb.2 (Wr.made w8) (by simp) (by simp)).mono ?_
      rintro e w9 ⟨rfl, v9, hW9, hf9, hn9⟩
      have HW9 : Hid (Wr 26 5 w9 w8.heap.size w8.heap.size v9 xs) := by
        rw [List.nil_append, intB, HZZ.out, HX2.out] at hW9
        exact hW9
      have HB89 := hid2 (((Below.refl w8.heap.size w8).alloc (Nat.le_refl _) _).trans (wr_below hf9 (by simp) (Nat.le_refl _) (fun k h => by simp [Value.ownBlock] at h)))
      have HB9 := hid2 (HB8b.out.trans (HB89.out.mono HB8b.out.size))
      have Hs9 := hid2 (Hs8.out.fr (Fr.ofBelow (S := fun _ => False) HB89.out) (fun _ _ h => h))
      clear hW9 hf9 hn9 HB89
      have hq9 := conv8 (Hs9.out.fr (Fr.refl w9 (fun _ => False)).drew (fun _ _ h => h))
      obtain ⟨S9, hS9⟩ : ∃ S, S = str8 xs := ⟨_, rfl⟩
      have HSS9 := hid2 hS9
      rw [← hS9] at hq9
      clear hS9
      go_wp2_with fail
      go_region_with (go_at_call 12; go_must (refine (bytes_any w8.heap.size w8.heap.size v9 xs _ ?_ hl).mono ?_; exact HW9.out.fr (Fr.refl w9 (fun _ => False)).drew (fun h => h) (fun _ _ h => h)); rintro e w10 ⟨v10, rfl, ho10, hf10⟩; obtain ⟨ao10, cap10, rfl⟩ := own_nil_shape ho10; have hc10 := conv8 (own_bs ho10); have hc11 := conv8 (Hs9.out.fr (hf10.ofDrew) (fun _ _ h => h)); have HB10 := hid2 (HB9.out.trans (hf10.ofDrew.below HB9.out.size (fun _ h => h.elim))); rw [← HSS9.out] at hc10 hc11; clear ho10 hf10)
      all_goals go_wp2_with (go_at_call 21; refine (head_any _).mono ?_; rintro e w11 ⟨rfl, hb11⟩; have HB11 := hid2 (HB10.out.trans (hb11.mono HB10.out.size)); clear hb11)
      all_goals go_ret
      all_goals exact ⟨rfl, HB11.out⟩
    · have hne : endE xs z3 (z0 : Int) ≠ 0 := by
        unfold endE
        split
        · decide
        · omega
      clear H10 F10
      generalize zag z2 = zz at *
      go_wp2_with (first
        | (go_at_call 20; refine (err_bad w5.heap.size R6 vr6 xs _ _ _ _ HR8.out hne).mono ?_; rintro e w9 ⟨rfl, _, hf9⟩; have HB9 := hid2 (HB8b.out.trans (hf9.below HB8b.out.size (fun _ h => h.elim))); clear hf9)
        | (go_at_call 21; refine (head_any _).mono ?_; rintro e w11 ⟨rfl, hb11⟩; have HB11 := hid2 (HB9.out.trans (hb11.mono HB9.out.size)); clear hb11))
      go_ret
      exact ⟨rfl, HB11.out⟩

set_option maxRecDepth 100000 in
theorem one_lifted (os : Os) (started : os.Started) (H : Type) (enc : TypeId × Value → H) :
    ReturnsInHanded {} Try.checked os 4 .any (Rows.wireOneSpec.pre6 enc Try.prog Try.f4 Rows.wireOneRow.domain false) (Rows.wireOneSpec.post enc Try.prog Try.f4 false true false false) := by
  refine returnsInHanded_of_change_sized (C := Try.checked) oneOwn started (by kernel_rfl) Try.func4
    (ChangeSpec.witness6 (enc := enc) (C := Try.checked) false ⟨#[], #[.slice none 0 0], []⟩ 8 (by kernel_rfl) (by kernel_rfl) (by kernel_rfl) (by kernel_rfl)) ?_
  intro W base args ds gs before hval0 hW _ hsz0 _
  have hsz : (DataW.weightsEach Try.prog (Try.f4.params.toList ++ Rows.wireOneSpec.plain.varTypes Try.prog) (ds ++ gs)).all (· ≤ reachBytes) = true := hsz0
  clear hsz0
  have hval : ∀ (j : Nat) t v, Try.f4.params[j]? = some t → args[j]? = some v → Value.okWide Try.prog W .any base t v := hval0
  have hW' := hW
  obtain ⟨p, q, hA0, hV, rfl, _, _⟩ := hW
  have hA : DataW.TrodAll enc Try.prog W 0 (fun _ => true) true Try.f4.params.toList args.toList ds p := hA0
  rw [Try.params4] at hA hval hsz
  obtain ⟨v0, d0, rfl, rfl, h0⟩ := trodAll_one hA
  obtain ⟨rfl, rfl⟩ := trodVars_none hV
  obtain ⟨a0, len, cap, rfl⟩ := okWide_slice Try.underlying24 (hval 0 24 v0 rfl rfl)
  have h0k := h0
  have lt0 : ∀ x ∈ p, x.block < W.heap.size := by obtain ⟨m, hm⟩ := h0k; exact DataW.trod_lt m _ _ _ hm
  obtain ⟨xs, hxl, hx8, hbs⟩ : ∃ xs : List Nat, xs.length ≤ 140737488355328 ∧ (∀ j, xs.getD j 0 < 256) ∧ Bs W (.slice a0 len cap) xs := by
    obtain ⟨fuel, hf⟩ := h0
    rcases open_ints Try.underlying24 Try.underlying5 Try.cells5 hf with ⟨hcs, hx⟩ | ⟨a, len', cap', zs, hcs, _, hl, hm, hz, hx, hcell, hwz⟩
    · simp [Value.cells] at hcs
      obtain ⟨rfl, rfl, rfl⟩ := hcs
      exact ⟨[], by simp, by simp, Or.inl ⟨rfl, rfl⟩⟩
    · simp [Value.cells] at hcs
      obtain ⟨rfl, rfl, rfl⟩ := hcs
      simp only [Prod.mk.injEq] at hx
      obtain ⟨rfl, _⟩ := hx
      simp only [if_true] at hz
      have hreach : cap * 1 ≤ 140737488351232 := by
        have := sized_slice hsz (j := 0) (t := 24) (e := 5) rfl rfl Try.underlying24
        rw [Try.bytes5] at this
        simp only [lits, List.length_map, List.length_take, List.length_drop, reachBytes] at this
        omega
      obtain ⟨xs, e1, e3, e2⟩ := bs_of_ints (a := a) (len := len) (cap := cap) (zs := zs) (by omega) hcell hwz
      exact ⟨xs, by omega, e3, e2⟩
  clear hA0 hval0
  refine (one_walk _ xs W hbs hx8 hxl).mono fun e W' ⟨he, bel⟩ => ?_
  subst he
  exact ⟨_, rfl, _, _, _, [], _, [], hW', trodAll_mk1 (shut_bool Try.underlying4 _), trodAll_mk1 (Below.trod oneLaid (by kernel_rfl) (of_decide_eq_true (by kernel_rfl)) h0k bel lt0), rfl, bel.frame _, fun h => by cases h⟩

theorem one_over : Rows.wireOneRow.holds Try.pinned (OpenSpec.ofChange Rows.wireOneSpec) :=
  OpenClaim.holds_of_wide 4 Try.f4 rfl rfl rfl rfl rfl rfl rfl ⟨rfl, rfl, rfl, rfl, rfl⟩ rfl rfl rfl rfl rfl (by kernel_rfl) Try.func4 (by kernel_rfl)
    (of_decide_eq_true (by kernel_rfl)) (by unfold Func.isWrapper; first | (rw [if_pos (by decide +kernel)]; kernel_rfl) | (rw [if_neg (by decide +kernel)]; exact ⟨rfl, rfl⟩))
    (fun os started H enc _ => one_lifted os started H enc)

theorem wireOne_holds : Rows.WireOneSaid := one_over
#print axioms wireOne_holds
end Go.Proofs.Ytfoapnmljnonlab
