import Derived.Test.YtilgkfpicdmkkaaMUpI
/- container/heap over merge's rests: down: a walk (lists of int). -/
namespace Go.Proofs.Ytilgkfpicdmkkaa.M.I
open Go.RowKit
variable {S : Rt → Value}

set_option maxHeartbeats 1000000 in
set_option maxRecDepth 100000 in
theorem down_any {w0 wk : World} {B : Nat} {v : Value} {hs : List Rt} (i n : Nat) (hi : i ≤ 1000000) (hn : n ≤ hs.length) (w : World) (h : Rs S fv w0 wk w B v hs) (hH : ∀ r ∈ hs.take n, Hd S w0 r) (hS : ∀ r, ∃ a n c, S r = .slice a n c) :
    Calls Try.prog 52 #[hv B, .int .i64 (i : Int), .int .i64 (n : Int)] w fun e w' => e = .returned (.bool (decide (i < (down (ltR cmE) hs i n).2))) ∧ Rs S fv w0 wk w' B v (down (ltR cmE) hs i n).1 := by
  have hlen := h.len
  have m1 := Try.mLessI
  have m2 := Try.mSwapI
  have HR := hid h
  have HH : Hid (∀ k, k < n → Hd S w0 (at' hs k)) := fun k hk => hH _ (by
    rw [at_get (by omega)]
    have : (hs.take n)[k]'(by simp; omega) = hs[k] := by simp
    rw [← this]
    exact List.getElem_mem _)
  have HS := hid hS
  clear h hH hS
  go_enter Try.func52, Try.ntmps52
  go_wp2_with fail
  go_loopg [7] (n - i) (fun g s7 wx => ∃ (k : Nat) (xs : List Rt), s7 = .int .i64 (k : Int) ∧ n - k ≤ g ∧ k ≤ 1000000 ∧ xs.length = hs.length ∧ Hid (Rs S fv w0 wk wx B v xs) ∧ Hid (∀ q, q < n → Hd S w0 (at' xs q)) ∧ Hid (down (ltR cmE) xs k n = down (ltR cmE) hs i n))
  case atStart => exact ⟨i, hs, rfl, Nat.le_refl _, hi, rfl, HR, HH, rfl⟩
  case round =>
    obtain ⟨k, xs, rfl, hk, hkl, hxl, HX, HM, HU⟩ := hrel
    by_cases hc : 2 * k + 1 < n
    · obtain ⟨a, ha⟩ : ∃ a, a = 2 * k + 1 := ⟨_, rfl⟩
      obtain ⟨b, hb0⟩ : ∃ b, b = 2 * k + 2 := ⟨_, rfl⟩
      have HA := hid ha
      have HBb := hid hb0
      have t1 : ¬ (n : Int) ≤ (a : Int) := by omega
      have t2 : ¬ (a : Int) < 0 := by omega
      have e1 : 2 * (k : Int) + 1 = (a : Int) := by omega
      have e2 : (a : Int) + 1 = (b : Int) := by omega
      have t4 : (k : Int) < (n : Int) := by omega
      have hkn : k < n := by omega
      have han : a < n := by omega
      have HL := hid (fun a b (ha : a < n) (hb : b < n) W (hf : Fr wr W (fun _ => False)) => less_any a b (by omega) (by omega) W (HX.out.step hf) ((HM.out a ha).fr (HX.out.step hf).fr) ((HM.out b hb).fr (HX.out.step hf).fr))
      by_cases h2 : b < n
      · have t3 : (b : Int) < (n : Int) := by omega
        have HL1 := hid (HL.out b a h2 han)
        cases hb : ltR cmE (at' xs b) (at' xs a) with
        | false =>
          have HK : Hid (kid (ltR cmE) xs k n = a) := by
            show kid (ltR cmE) xs k n = a
            unfold kid
            rw [← hb0, ← ha, if_neg (by rw [hb]; rintro ⟨_, h⟩; cases h)]
          have HL2 := hid (HL.out a k han hkn)
          rw [hb] at HL1
          clear hb HL ha hb0 hc
          cases hlr : ltR cmE (at' xs a) (at' xs k) with
          | false =>
            rw [hlr] at HL2
            have HD : Hid (down (ltR cmE) hs i n = (xs, k)) := by
              have hu := HU.out
              rw [down, dif_pos (Or.inr (by rw [HK.out]; exact hlr))] at hu
              exact hu.symm
            clear hlr
            go_wp2_with fail
            refine (HL1.out _ (Fr.refl _ _)).mono ?_
            rintro e w1 ⟨rfl, hf1⟩
            have HF := hid hf1
            clear hf1
            go_wp2_with fail
            refine (HL2.out _ HF.out).mono ?_
            rintro e w2 ⟨rfl, hf2⟩
            have HF2 := hid (HF.out.trans hf2)
            clear hf2
            go_wp2_with fail
            go_ret
            rw [HD.out]
            refine ⟨?_, HX.out.step HF2.out⟩
            congr 2
          | true =>
            rw [hlr] at HL2
            have HD : Hid (down (ltR cmE) (swap xs k a) a n = down (ltR cmE) hs i n) := by
              have hu := HU.out
              have h1 := HA.out
              rw [down, dif_neg (by rw [HK.out, hlr]; rintro (h | h); omega; cases h), HK.out] at hu
              exact hu
            clear hlr
            have HSw := hid (fun W (hf : Fr wr W (fun _ => False)) => swap_any k a (by omega) (by omega) HS.out W (HX.out.step hf))
            go_wp2_with fail
            refine (HL1.out _ (Fr.refl _ _)).mono ?_
            rintro e w1 ⟨rfl, hf1⟩
            have HF := hid hf1
            clear hf1
            go_wp2_with fail
            refine (HL2.out _ HF.out).mono ?_
            rintro e w2 ⟨rfl, hf2⟩
            have HF2 := hid (HF.out.trans hf2)
            clear hf2
            go_wp2_with fail
            refine (HSw.out _ HF2.out).mono ?_
            rintro e w3 ⟨rfl, hx3⟩
            have HX3 := hid hx3
            clear hx3
            go_wp2_with fail
            go_roundg (gk - 1)
            case measure => have := HA.out; omega
            case rel =>
              have h1 := HA.out
              have h2 := HBb.out
              refine ⟨a, swap xs k a, rfl, by omega, by omega, by rw [swap_len]; exact hxl, HX3, fun q hq => ?_, HD⟩
              rw [at_swap (by omega) (by omega)]
              split
              · exact HM.out k (by omega)
              · split
                · exact HM.out a (by omega)
                · exact HM.out q hq
        | true =>
          have HK : Hid (kid (ltR cmE) xs k n = b) := by
            show kid (ltR cmE) xs k n = b
            unfold kid
            rw [← hb0, ← ha, if_pos ⟨h2, hb⟩]
          have HL2 := hid (HL.out b k h2 hkn)
          rw [hb] at HL1
          clear hb HL ha hb0 hc
          cases hlr : ltR cmE (at' xs b) (at' xs k) with
          | false =>
            rw [hlr] at HL2
            have HD : Hid (down (ltR cmE) hs i n = (xs, k)) := by
              have hu := HU.out
              rw [down, dif_pos (Or.inr (by rw [HK.out]; exact hlr))] at hu
              exact hu.symm
            clear hlr
            go_wp2_with fail
            refine (HL1.out _ (Fr.refl _ _)).mono ?_
            rintro e w1 ⟨rfl, hf1⟩
            have HF := hid hf1
            clear hf1
            go_wp2_with fail
            refine (HL2.out _ HF.out).mono ?_
            rintro e w2 ⟨rfl, hf2⟩
            have HF2 := hid (HF.out.trans hf2)
            clear hf2
            go_wp2_with fail
            go_ret
            rw [HD.out]
            refine ⟨?_, HX.out.step HF2.out⟩
            congr 2
          | true =>
            rw [hlr] at HL2
            have HD : Hid (down (ltR cmE) (swap xs k b) b n = down (ltR cmE) hs i n) := by
              have hu := HU.out
              have h1 := HA.out
              rw [down, dif_neg (by rw [HK.out, hlr]; rintro (h | h); omega; cases h), HK.out] at hu
              exact hu
            clear hlr
            have HSw := hid (fun W (hf : Fr wr W (fun _ => False)) => swap_any k b (by omega) (by omega) HS.out W (HX.out.step hf))
            go_wp2_with fail
            refine (HL1.out _ (Fr.refl _ _)).mono ?_
            rintro e w1 ⟨rfl, hf1⟩
            have HF := hid hf1
            clear hf1
            go_wp2_with fail
            refine (HL2.out _ HF.out).mono ?_
            rintro e w2 ⟨rfl, hf2⟩
            have HF2 := hid (HF.out.trans hf2)
            clear hf2
            go_wp2_with fail
            refine (HSw.out _ HF2.out).mono ?_
            rintro e w3 ⟨rfl, hx3⟩
            have HX3 := hid hx3
            clear hx3
            go_wp2_with fail
            go_roundg (gk - 1)
            case measure => have := HA.out; omega
            case rel =>
              have h1 := HA.out
              have h2 := HBb.out
              refine ⟨b, swap xs k b, rfl, by omega, by omega, by rw [swap_len]; exact hxl, HX3, fun q hq => ?_, HD⟩
              rw [at_swap (by omega) (by omega)]
              split
              · exact HM.out k (by omega)
              · split
                · exact HM.out b (by omega)
                · exact HM.out q hq
      · have t3 : ¬ (b : Int) < (n : Int) := by omega
        have HK : Hid (kid (ltR cmE) xs k n = a) := by
          show kid (ltR cmE) xs k n = a
          unfold kid
          rw [← hb0, ← ha, if_neg (by rintro ⟨h, _⟩; exact h2 h)]
        have HL2 := hid (HL.out a k han hkn)
        clear HL ha hb0 hc
        cases hlr : ltR cmE (at' xs a) (at' xs k) with
        | false =>
          rw [hlr] at HL2
          have HD : Hid (down (ltR cmE) hs i n = (xs, k)) := by
            have hu := HU.out
            rw [down, dif_pos (Or.inr (by rw [HK.out]; exact hlr))] at hu
            exact hu.symm
          clear hlr
          have HF := hid (Fr.refl wr (fun _ => False))
          go_wp2_with fail
          refine (HL2.out _ HF.out).mono ?_
          rintro e w2 ⟨rfl, hf2⟩
          have HF2 := hid (HF.out.trans hf2)
          clear hf2
          go_wp2_with fail
          go_ret
          rw [HD.out]
          refine ⟨?_, HX.out.step HF2.out⟩
          congr 2
        | true =>
          rw [hlr] at HL2
          have HD : Hid (down (ltR cmE) (swap xs k a) a n = down (ltR cmE) hs i n) := by
            have hu := HU.out
            have h1 := HA.out
            rw [down, dif_neg (by rw [HK.out, hlr]; rintro (h | h); omega; cases h), HK.out] at hu
            exact hu
          clear hlr
          have HSw := hid (fun W (hf : Fr wr W (fun _ => False)) => swap_any k a (by omega) (by omega) HS.out W (HX.out.step hf))
          have HF := hid (Fr.refl wr (fun _ => False))
          go_wp2_with fail
          refine (HL2.out _ HF.out).mono ?_
          rintro e w2 ⟨rfl, hf2⟩
          have HF2 := hid (HF.out.trans hf2)
          clear hf2
          go_wp2_with fail
          refine (HSw.out _ HF2.out).mono ?_
          rintro e w3 ⟨rfl, hx3⟩
          have HX3 := hid hx3
          clear hx3
          go_wp2_with fail
          go_roundg (gk - 1)
          case measure => have := HA.out; omega
          case rel =>
            have h1 := HA.out
            have h2 := HBb.out
            refine ⟨a, swap xs k a, rfl, by omega, by omega, by rw [swap_len]; exact hxl, HX3, fun q hq => ?_, HD⟩
            rw [at_swap (by omega) (by omega)]
            split
            · exact HM.out k (by omega)
            · split
              · exact HM.out a (by omega)
              · exact HM.out q hq
    · have t1 : (n : Int) ≤ 2 * (k : Int) + 1 := by omega
      have HD : Hid (down (ltR cmE) hs i n = (xs, k)) := by
        have hu := HU.out
        rw [down, dif_pos (Or.inl (by omega))] at hu
        exact hu.symm
      clear hc
      go_wp2_with fail
      go_ret
      rw [HD.out]
      refine ⟨?_, HX.out⟩
      congr 2
end Go.Proofs.Ytilgkfpicdmkkaa.M.I
