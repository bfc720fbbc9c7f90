/- WireLong returns true for every two ints; no conditions. -/
import Derived.Test.YtfoapnmljnonlaaHead
import Derived.Test.YtfoapnmljnonlaaFnew
import Derived.ProofKit
import Derived.OpenShut
import Derived.Below
import Derived.WalkSmall
namespace Go.Proofs.Ytfoapnmljnonlaa
open Go.ChangeShapes Go.WideShapes Go.ChangeAt Go.RowKit

theorem longOwn : ownKnob Try.prog.godebug = none := by kernel_rfl

theorem reps_lt (k j : Nat) : (List.replicate k 0).getD j 0 < 256 := by
  rcases Nat.lt_or_ge j k with h | h
  · simp [List.getD, h]
  · rw [List.getD, List.getElem?_eq_none (by simpa using h)]
    decide

/-- The zero bytes that make lays. -/
theorem made_bs {w1 : World} {base g n : Nat} (h : w1.ownsRow base 5 1 (.slice (some ⟨g, 0, none⟩) n n) n (madeCells #[.int .u8 0] n).toList) : Bs w1 (.slice (some ⟨g, 0, none⟩) n n) (List.replicate n 0) := by
  rw [toList_madeCells_one] at h
  have : w1.ownsRow base 5 1 (.slice (some ⟨g, 0, none⟩) n n) (List.replicate n 0).length (by8 (List.replicate n 0)) := by
    rw [by8_replicate, List.length_replicate]
    exact h
  exact own_bs (by simpa using this)

theorem long_body (k : Nat) : ((frameB (List.replicate k 0)).drop 4).take k = List.replicate k 0 := by
  have := body_frame (List.replicate k 0) []
  rwa [List.append_nil, List.length_replicate] at this
theorem long_rest (k : Nat) : (frameB (List.replicate k 0)).drop (4 + k) = [] := by
  have := rest_frame (List.replicate k 0) []
  rwa [List.append_nil, List.length_replicate] at this

set_option maxHeartbeats 2000000 in
set_option maxRecDepth 100000 in
theorem long_walk (a m : Int) (w : World) : Calls Try.prog 6 #[.int .i64 a, .int .i64 m] w fun e w' => e = .returned (.bool true) ∧ Below w.heap.size w w' := by
  obtain ⟨i0, hi, hz0, hz1, hz2⟩ := info_parts Try.info5
  obtain ⟨k, hk, hkl⟩ : ∃ k : Nat, a % 131072 = (k : Int) ∧ k < 131072 := ⟨(a % 131072).toNat, by omega, by omega⟩
  have q1 : ((4 : Int) + (k : Int) != (k : Int) + 4) = false := by simp; omega
  have q2 : ((4 : Int) + (k : Int) == (k : Int) + 4) = true := by simp; omega
  have HK := hid hk
  clear hk
  go_enter Try.func6, Try.ntmps6
  go_wp2_with fail
  refine (round_any a 131072 w (by decide) (by decide)).mono ?_
  rintro e w1 ⟨rfl, hw1⟩
  have hw1 := hw1.symm
  subst hw1
  rw [HK.out]
  go_wp2_with (at_make; go_must (refine wpList_make_full _ rfl (.tmp 15) (.tmp 15) 27 rfl w.heap.size 5 i0 (.int .u8 0) 1 Try.underlying27 hi hz0 hz1 .i64 .i64 _ _ k rfl rfl rfl rfl (by rw [hz2]; omega) (by unfold maxLen; omega) (Nat.le_refl _) ?_))
  intro w1 hown1 hgrow1
  have HB1 := hid (made_bs hown1)
  have HF1 := hid ((Fr.refl w (fun _ => False)).grown hgrow1 (fun k _ h => by cases h))
  clear hown1 hgrow1
  go_wp2_with fail
  refine (frame_any _ (List.replicate k 0) w1 (by simpa using HB1.out) (by simp; omega)).mono ?_
  rintro e w2 ⟨v2, hf2, hp2⟩
  have HF2 := hid (HF1.out.trans hf2)
  clear hf2
  rw [List.length_replicate] at hp2
  rcases hp2 with ⟨h1, h2, rfl, ho2⟩ | ⟨h1, rfl, rfl⟩
  · obtain ⟨ao2, cap2, rfl⟩ := own_nil_shape ho2
    have HO2 := hid ho2
    have hfl := frameB_length (List.replicate k 0)
    rw [List.length_replicate] at hfl
    clear ho2
    rw [hfl]
    have t1 : ¬ (k : Int) < 1 := by omega
    have t2 : ¬ (65536 : Int) < (k : Int) := by omega
    by_cases hm : 1 ≤ m ∧ m ≤ 65536
    · obtain ⟨q, rfl⟩ := Int.eq_ofNat_of_zero_le (show 0 ≤ m by omega)
      have t3 : (1 : Int) ≤ (q : Int) := hm.1
      have t4 : (q : Int) ≤ 65536 := hm.2
      clear hm
      go_wp2_with fail
      refine (new_ok q w2 (by omega) (by omega)).mono ?_
      rintro e w3 ⟨rfl, hz3, hf3, hl3⟩
      have HZ3 := hid hz3
      have HF3 := hid (HF2.out.trans hf3)
      have HO3 := hid (own_fr HO2.out hf3 (fun _ _ h => h))
      have hs3 := HF2.out.size
      clear hz3 hf3 HO2
      go_wp2_with fail
      refine (feed_any w2.heap.size w2.heap.size _ q [] 0 0 _ (frameB (List.replicate k 0)) w3 HZ3.out (by rw [hfl] at HO3; exact own_bs (by rw [hfl]; exact HO3.out)) (by omega) (by rw [hfl]; simp; omega)).mono ?_
      rintro e w4 ⟨rfl, v4, hz4, hf4, hn4⟩
      rw [if_pos rfl, List.nil_append] at hz4
      have HZ4 := hid hz4
      have HB4 := hid ((HF3.out.below (Nat.le_refl _) (fun _ h => h.elim)).trans (hf4.below (by have := HF3.out.size; omega) (fun k h => by
        rcases h with h | h
        · omega
        · simp [Value.ownBlock] at h)))
      have hs4 := hf4.size
      clear hz4 hf4 hn4 HO3 HF3
      have HN := hid (headN_frame (List.replicate k 0) [] (by simp; omega))
      have HB8 := hid (frameB_lt (reps_lt k))
      rw [List.append_nil, List.length_replicate] at HN
      by_cases hq : (q : Int) < (k : Int)
      · go_wp2_with fail
        refine (next_bad w2.heap.size w2.heap.size v4 q (frameB (List.replicate k 0)) 0 w4 HZ4.out HB8.out (by rw [hfl]; omega) (by rw [List.drop_zero, HN.out]; omega)).mono ?_
        rintro e w5 ⟨rfl, v5, hz5, hf5, hn5⟩
        rw [hfl] at hz5
        have HZ5 := hid hz5
        have HB5 := hid (HB4.out.trans (hf5.below (by omega) (fun k h => by
          rcases h with h | h
          · omega
          · have := (HZ4.out.own.lt k h).1
            omega)))
        clear hz5 hf5 hn5
        unfold noFrame
        have hh : heldN [] 0 (4 + k - 0) = 4 + k := by simp [heldN]
        go_wp2_with (first
          | (go_at_call 22; refine (held_any _ _ v5 q [] 0 (4 + k - 0) _ HZ5.out).mono ?_; rintro e w6 ⟨rfl, n6, rfl⟩; rw [hh]; have HB6 := hid (below_drewN HB5.out n6))
          | (go_at_call 9; refine (head_any _).mono ?_; rintro e w7 ⟨rfl, hb7⟩; have HB7 := hid (HB6.out.trans (hb7.mono HB6.out.size)); clear hb7))
        go_ret
        exact ⟨rfl, HB7.out⟩
      · go_wp2_with fail
        refine (next_good w2.heap.size w2.heap.size v4 q (frameB (List.replicate k 0)) 0 w4 HZ4.out (by omega) HB8.out (by rw [hfl]; omega) (by rw [List.drop_zero, HN.out]; omega) (by rw [List.drop_zero, HN.out]; omega) (by rw [List.drop_zero, HN.out, hfl]; omega)).mono ?_
        rintro e w5 ⟨bv, v5, fed5, told5, rfl, hbo, hz5, hd5, hf5, _, _⟩
        rw [List.drop_zero, HN.out, long_body] at hbo
        rw [List.drop_zero, HN.out, Nat.zero_add, long_rest] at hd5
        obtain ⟨aob, capb, rfl⟩ := own_nil_shape hbo
        have HZ5 := hid hz5
        have HB5 := hid (HB4.out.trans (hf5.below (by omega) (fun k h => by
          rcases h with h | h
          · omega
          · have := (HZ4.out.own.lt k h).1
            omega)))
        have hh : heldN fed5 told5 0 = 0 := by
          have := congrArg List.length hd5
          simp at this
          simp [heldN]
          omega
        rw [List.length_replicate]
        clear hz5 hf5 hbo hd5
        have hq' : (k : Int) ≤ (q : Int) := by omega
        go_wp2_with (first
          | (go_at_call 22; refine (held_any _ _ v5 q fed5 told5 0 _ HZ5.out).mono ?_; rintro e w6 ⟨rfl, n6, rfl⟩; rw [hh]; have HB6 := hid (below_drewN HB5.out n6))
          | (go_at_call 9; refine (head_any _).mono ?_; rintro e w7 ⟨rfl, hb7⟩; have HB7 := hid (HB6.out.trans (hb7.mono HB6.out.size)); clear hb7))
        go_ret
        exact ⟨rfl, HB7.out⟩
    · have hm' : m < 1 ∨ 65536 < m := by omega
      go_wp2_with fail
      refine (new_bad m w2 hm').mono ?_
      rintro e w3 ⟨rfl, hw3⟩
      have hw3 := hw3.symm
      subst hw3
      have HB2 := hid (HF2.out.below (Nat.le_refl _) (fun _ h => h.elim))
      rcases hm' with hm' | hm'
      · go_wp2_with (go_at_call 9; refine (head_any _).mono ?_; rintro e w7 ⟨rfl, hb7⟩; have HB7 := hid (HB2.out.trans (hb7.mono HB2.out.size)); clear hb7)
        go_ret
        exact ⟨rfl, HB7.out⟩
      · have hm1 : (1 : Int) ≤ m := by omega
        go_wp2_with (go_at_call 9; refine (head_any _).mono ?_; rintro e w7 ⟨rfl, hb7⟩; have HB7 := hid (HB2.out.trans (hb7.mono HB2.out.size)); clear hb7)
        go_ret
        exact ⟨rfl, HB7.out⟩
  · have hk2 : (k : Int) < 1 ∨ (65536 : Int) < (k : Int) := by omega
    have HB2 := hid (HF2.out.below (Nat.le_refl _) (fun _ h => h.elim))
    by_cases hm : 1 ≤ m ∧ m ≤ 65536
    · obtain ⟨q, rfl⟩ := Int.eq_ofNat_of_zero_le (show 0 ≤ m by omega)
      have t3 : (1 : Int) ≤ (q : Int) := hm.1
      have t4 : (q : Int) ≤ 65536 := hm.2
      clear hm
      go_wp2_with fail
      refine (new_ok q w2 (by omega) (by omega)).mono ?_
      rintro e w3 ⟨rfl, hz3, hf3, hl3⟩
      have HB3 := hid (HB2.out.trans (hf3.below HB2.out.size (fun _ h => h.elim)))
      clear hz3 hf3
      rcases hk2 with hk2 | hk2
      · go_wp2_with (go_at_call 9; refine (head_any _).mono ?_; rintro e w7 ⟨rfl, hb7⟩; have HB7 := hid (HB3.out.trans (hb7.mono HB3.out.size)); clear hb7)
        go_ret
        exact ⟨rfl, HB7.out⟩
      · have hk1 : (1 : Int) ≤ (k : Int) := by omega
        go_wp2_with (go_at_call 9; refine (head_any _).mono ?_; rintro e w7 ⟨rfl, hb7⟩; have HB7 := hid (HB3.out.trans (hb7.mono HB3.out.size)); clear hb7)
        go_ret
        exact ⟨rfl, HB7.out⟩
    · have hm' : m < 1 ∨ 65536 < m := by omega
      go_wp2_with fail
      refine (new_bad m w2 hm').mono ?_
      rintro e w3 ⟨rfl, hw3⟩
      have hw3 := hw3.symm
      subst hw3
      rcases hk2 with hk2 | hk2 <;> rcases hm' with hm' | hm'
      · go_wp2_with (go_at_call 9; refine (head_any _).mono ?_; rintro e w7 ⟨rfl, hb7⟩; have HB7 := hid (HB2.out.trans (hb7.mono HB2.out.size)); clear hb7)
        go_ret
        exact ⟨rfl, HB7.out⟩
      · have hm1 : (1 : Int) ≤ m := by omega
        go_wp2_with (go_at_call 9; refine (head_any _).mono ?_; rintro e w7 ⟨rfl, hb7⟩; have HB7 := hid (HB2.out.trans (hb7.mono HB2.out.size)); clear hb7)
        go_ret
        exact ⟨rfl, HB7.out⟩
      · have hk1 : (1 : Int) ≤ (k : Int) := by omega
        go_wp2_with (go_at_call 9; refine (head_any _).mono ?_; rintro e w7 ⟨rfl, hb7⟩; have HB7 := hid (HB2.out.trans (hb7.mono HB2.out.size)); clear hb7)
        go_ret
        exact ⟨rfl, HB7.out⟩
      · have hk1 : (1 : Int) ≤ (k : Int) := by omega
        have hm1 : (1 : Int) ≤ m := by omega
        go_wp2_with (go_at_call 9; refine (head_any _).mono ?_; rintro e w7 ⟨rfl, hb7⟩; have HB7 := hid (HB2.out.trans (hb7.mono HB2.out.size)); clear hb7)
        go_ret
        exact ⟨rfl, HB7.out⟩

set_option maxRecDepth 100000 in
theorem long_lifted (os : Os) (started : os.Started) (H : Type) (enc : TypeId × Value → H) :
    ReturnsInHanded {} Try.checked os 6 .any (Rows.wireLongSpec.pre6 enc Try.prog Try.f6 Rows.wireLongRow.domain false) (Rows.wireLongSpec.post enc Try.prog Try.f6 false true false false) := by
  refine returnsInHanded_of_change (C := Try.checked) longOwn started (by kernel_rfl) Try.func6
    (ChangeSpec.witness6 (enc := enc) (C := Try.checked) false ⟨#[], #[.int .i64 0, .int .i64 0], []⟩ 8 (by kernel_rfl) (by kernel_rfl) (by kernel_rfl) (by kernel_rfl)) ?_
  intro W base args ds gs before hval0 hW hcnd _
  have hval : ∀ (j : Nat) t v, Try.f6.params[j]? = some t → args[j]? = some v → Value.okWide Try.prog W .any base t v := hval0
  have hW' := hW
  obtain ⟨p, q, hA0, hV, rfl, hfz, hnd⟩ := hW
  have hA : DataW.TrodAll enc Try.prog W 0 (fun _ => true) true Try.f6.params.toList args.toList ds p := hA0
  rw [Try.params6] at hA hval
  obtain ⟨v0, v1, d0, d1, p0, p1, rfl, rfl, rfl, h0, h1⟩ := trodAll_two hA
  obtain ⟨rfl, rfl⟩ := trodVars_none hV
  obtain ⟨x0, rfl, rfl, rfl, w0⟩ := open_int Try.underlying3 (hval 0 3 v0 rfl rfl) h0
  obtain ⟨x1, rfl, rfl, rfl, w1⟩ := open_int Try.underlying3 (hval 1 3 v1 rfl rfl) h1
  refine (long_walk x0 x1 W).mono fun e W' ⟨he, bel⟩ => ?_
  subst he
  exact ⟨_, rfl, _, _, _, [], [], [], hW', trodAll_mk1 (shut_bool Try.underlying4 _), trodAll_mk2 (shut_int Try.underlying3 w0) (shut_int Try.underlying3 w1), rfl, bel.frame _, fun h => by cases h⟩

theorem long_over : Rows.wireLongRow.holds Try.pinned (OpenSpec.ofChange Rows.wireLongSpec) :=
  OpenClaim.holds_of_wide 6 Try.f6 rfl rfl rfl rfl rfl rfl rfl ⟨rfl, rfl, rfl, rfl, rfl⟩ rfl rfl rfl rfl rfl (by kernel_rfl) Try.func6 (by kernel_rfl)
    (of_decide_eq_true (by kernel_rfl)) (by unfold Func.isWrapper; first | (rw [if_pos (by decide +kernel)]; kernel_rfl) | (rw [if_neg (by decide +kernel)]; exact ⟨rfl, rfl⟩))
    (fun os started H enc _ => long_lifted os started H enc)

theorem wireLong_holds : Rows.WireLongSaid := long_over
#print axioms wireLong_holds
end Go.Proofs.Ytfoapnmljnonlaa
