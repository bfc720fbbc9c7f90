/- MergeMany: a walk. Written by wip/gen/genmany.py. -/
import Derived.Test.YtilgkfpicdmkkaaMMany0
import Derived.Deep.DeepCutAuto
namespace Go.Proofs.Ytilgkfpicdmkkaa.M
open Go.RowKit

set_option maxHeartbeats 8000000 in
set_option maxRecDepth 100000 in
theorem many_walk (most : Int) {LR : List (List Rw)} {LI : List (List Int)} {vr vi : Value} (w : World) (hr : RdRs w vr LR) (hi : RdIs w vi LI) :
    Calls Try.prog 5 #[.int .i64 most, vr, vi] w fun r w' => r = .returned (.bool true) ∧ Fr w w' (fun _ => False) := by
  obtain ⟨i0, hi0, hz0, hz1, hz2⟩ := M.W.infoP Try.info_rs
  obtain ⟨i1, hi1, hy0, hy1, hy2⟩ := M.W.infoP Try.info_is
  obtain ⟨ar, cr, rfl, hrl, hrv⟩ := hr
  obtain ⟨ai, ci, rfl, hil, hiv⟩ := hi
  have HV := hid hrv
  have HI := hid hiv
  clear hrv hiv
  go_enter Try.func5, Try.ntmps5
  go_wp2_with fail
  refine (known_any _).mono ?_
  rintro r wk ⟨rfl, hf⟩
  have HS0 := hid (SpR.nil w wk hf)
  clear hf
  go_wp2_with fail
  go_loopg [7, 8] (min LR.length 40) (fun g s7 s8 wx => ∃ (i : Nat) (us : List Value) (ls : List (List Rw)), s8 = .int .i64 (i : Int) ∧ i + g = min LR.length 40 ∧ Hid (us.length = i) ∧ Hid (tot ls ≤ 30 * i) ∧ Hid (SpR w wx s7 us ls))
  case atStart => exact ⟨0, [], [], rfl, by omega, rfl, Nat.zero_le _, HS0⟩
  case round =>
    obtain ⟨i, us, ls, rfl, hg, HU, HTo, HS⟩ := hrel
    clear HS0
    obtain ⟨a7, c7, e7⟩ := own_nil_shape HS.out.own
    rw [HU.out] at e7
    subst e7
    cases gk with
    | zero =>
      have hi40 : i ≤ 40 := by omega
      have HT2 := hid (show tot ls ≤ 1200 by have := HTo.out; omega)
      clear HTo
      generalize wr = V0 at *
      go_upto_region 5 with fail
      go_cut [22] (fun s22 wx => s22 = .bool false ∧ wx = V0)
      case first =>
        by_cases hlt : i < LR.length
        · have t1 : (i : Int) < (LR.length : Int) := by omega
          have t2 : ¬ (i : Int) < 40 := by omega
          clear hg hlt
          go_wp2_with fail
          go_meet
          exact ⟨rfl, rfl⟩
        · have t1 : ¬ (i : Int) < (LR.length : Int) := by omega
          clear hg hlt
          go_wp2_with fail
          go_meet
          exact ⟨rfl, rfl⟩
      case rest =>
        obtain ⟨rfl, hw⟩ := hcut
        have hw := hw.symm
        subst hw
        clear hg
        have HJ0 := hid (SpJ.nil w V0 HS.out.fr)
        have HUr := HU
        clear HU
        generalize hi7 : i = i7 at *
        clear hi7
        go_wp2_with fail
        go_loopg [10, 11] (min LI.length 60) (fun g s10 s11 wx => ∃ (i : Nat) (us2 : List Value) (ls2 : List (List Int)), s11 = .int .i64 (i : Int) ∧ i + g = min LI.length 60 ∧ Hid (us2.length = i) ∧ Hid (tot ls2 ≤ 30 * i) ∧ Hid (∀ l ∈ ls2, l.Pairwise (fun a b => a ≤ b)) ∧ Hid (SpJ w wx s10 us2 ls2) ∧ Hid (SpR w wx (.slice a7 i7 c7) us ls))
        case atStart => exact ⟨0, [], [], rfl, by omega, rfl, Nat.zero_le _, fun l hl => by simp at hl, HJ0, HS⟩
        case round =>
          obtain ⟨i, us2, ls2, rfl, hg, HU, HTo, HPo, HS0, HR0⟩ := hrel
          clear HJ0 HS
          obtain ⟨a10, c10, e10⟩ := own_nil_shape HS0.out.own
          rw [HU.out] at e10
          subst e10
          cases gk with
          | zero =>
            have hi60 : i ≤ 60 := by omega
            have HT3 := hid (show tot ls2 ≤ 1800 by have := HTo.out; omega)
            clear HTo
            generalize wr = V2 at *
            go_upto_region 13 with fail
            go_cut [46] (fun s46 wx => s46 = .bool false ∧ wx = V2)
            case first =>
              by_cases hlt : i < LI.length
              · have t1 : (i : Int) < (LI.length : Int) := by omega
                have t2 : ¬ (i : Int) < 60 := by omega
                clear hg hlt
                go_wp2_with fail
                go_meet
                exact ⟨rfl, rfl⟩
              · have t1 : ¬ (i : Int) < (LI.length : Int) := by omega
                clear hg hlt
                go_wp2_with fail
                go_meet
                exact ⟨rfl, rfl⟩
            case rest =>
              obtain ⟨rfl, hw⟩ := hcut
              have hw := hw.symm
              subst hw
              clear hg
              have HLr := hid (show ls.length ≤ 900000 by have := HR0.out.len; have := HUr.out; omega)
              have HLj := hid (show ls2.length ≤ 900000 by have := HS0.out.len; have := HU.out; omega)
              have HA := hid (fun (W : World) (hf : Fr V2 W (fun _ => False)) => (show Calls Try.prog 10 #[.int .i64 most, .slice a7 i7 c7] W fun e w' => ∃ v, e = .returned v ∧ M.W.Ro7 W w' v ((merged M.W.cmE ls).take most.toNat) from by
                obtain ⟨sv, hat⟩ := (HR0.out.step hf).at HLr.out
                exact M.W.rows_any most W hat (by have := HT2.out; omega)))
              have HB := hid (fun (W : World) (hf : Fr V2 W (fun _ => False)) => (show Calls Try.prog 12 #[.int .i64 most, .slice a7 i7 c7] W fun e w' => ∃ v, e = .returned v ∧ M.W.Ro7 W w' v ((merged M.W.cmE ls).take most.toNat) from by
                obtain ⟨sv, hat⟩ := (HR0.out.step hf).at HLr.out
                exact rrows_any most W hat (by have := HT2.out; omega)))
              have HC := hid (fun (W : World) (hf : Fr V2 W (fun _ => False)) => (show Calls Try.prog 16 #[.slice a10 i c10] W fun e w' => ∃ v, e = .returned v ∧ I.Eo W w' v (I.ded (merged I.cmE ls2)) from by
                obtain ⟨sv, hat⟩ := (HS0.out.step hf).at HLj.out
                exact I.lists_any W hat (by have := HT3.out; omega)))
              have HD := hid (fun (W : World) (hf : Fr V2 W (fun _ => False)) => (show Calls Try.prog 15 #[.slice a10 i c10] W fun e w' => ∃ v, e = .returned v ∧ I.Eo W w' v (I.ded (merged I.cmE ls2)) from by
                obtain ⟨sv, hat⟩ := (HS0.out.step hf).at HLj.out
                exact rlists_any W hat (by have := HT3.out; omega) HPo.out))
              have HQ1 := hid (show ((merged M.W.cmE ls).take most.toNat).length ≤ 1000000000 by have := merged_takelen ls most.toNat; have := HT2.out; omega)
              have HQ2 := hid (show (I.ded (merged I.cmE ls2)).length ≤ 1000000000 by have := ded_totlen ls2; have := HT3.out; omega)
              have HF0 := hid HR0.out.fr
              generalize (merged M.W.cmE ls).take most.toNat = P at *
              generalize I.ded (merged I.cmE ls2) = Q at *
              clear HR0 HS0 HPo HT2 HT3
              go_wp2_with fail
              refine (HA.out _ (Fr.refl _ _)).mono ?_
              rintro r x1 ⟨v1, rfl, h1⟩
              have H1 := hid h1
              obtain ⟨p1, q1, rfl⟩ := own_nil_shape h1.1
              clear h1 HA
              go_wp2_with fail
              refine (HB.out _ H1.out.2).mono ?_
              rintro r x2 ⟨v2, rfl, h2⟩
              have H2 := hid h2
              obtain ⟨p2, q2, rfl⟩ := own_nil_shape h2.1
              clear h2 HB
              go_wp2_with fail
              refine (same_any (L := P) _ ((RdR.of H1.out.1 HQ1.out).step H2.out.2) (RdR.of H2.out.1 HQ1.out)).mono ?_
              rintro r x3 ⟨rfl, hf3⟩
              have H3 := hid ((H1.out.2.trans H2.out.2).trans hf3)
              clear hf3
              go_wp2_with fail
              refine (HC.out _ H3.out).mono ?_
              rintro r x4 ⟨v4, rfl, h4⟩
              have H4 := hid h4
              obtain ⟨p4, q4, rfl⟩ := own_nil_shape h4.1
              clear h4 HC
              go_wp2_with fail
              refine (HD.out _ (H3.out.trans H4.out.2)).mono ?_
              rintro r x5 ⟨v5, rfl, h5⟩
              have H5 := hid h5
              obtain ⟨p5, q5, rfl⟩ := own_nil_shape h5.1
              clear h5 HD
              go_wp2_with fail
              refine (samei_any (L := Q) _ ((RdI.of H4.out.1 HQ2.out).step H5.out.2) (RdI.of H5.out.1 HQ2.out)).mono ?_
              rintro r x6 ⟨rfl, hf6⟩
              have H6 := hid ((HF0.out.trans ((H3.out.trans H4.out.2).trans H5.out.2)).trans hf6)
              clear hf6
              go_wp2_with fail
              go_ret
              exact ⟨rfl, H6.out⟩
          | succ go =>
            have t0 : (0 : Int) ≤ (i : Int) := by omega
            have t1 : (i : Int) < (LI.length : Int) := by omega
            have t2 : (i : Int) < 60 := by omega
            have HG := hid hg
            obtain ⟨b, o, rfl, hel⟩ := HI.out (by omega)
            obtain ⟨u, hc, hu⟩ := hel i (by omega)
            have hc1 := ci_fr hc HS0.out.fr
            have hbl := World.block_lt_of_cell? _ _ hc1
            have HOr := hid (rising_srt wr (hu.step HS0.out.fr))
            obtain ⟨au, cu, rfl, _⟩ := hu
            generalize (LI[i]?.getD []).length = lu at *
            clear hc hel hg
            have hwr : w.heap.size ≤ wr.heap.size := HS0.out.fr.size
            go_wp2_with fail
            refine HOr.out.mono ?_
            rintro r w1 ⟨v1, rfl, X, hro, hXl, hXs⟩
            have HS1 := hid (HS0.out.step hro.2)
            have HR1 := hid (HR0.out.step hro.2)
            have HRo := hid (Eo.behind hro HS0.out.fr)
            have HXs := hid hXs
            have hw1 : w.heap.size ≤ w1.heap.size := HS1.out.fr.size
            clear hro HOr HS0 HR0 hc1 hbl hXs
            obtain ⟨a1, c1, rfl⟩ := own_nil_shape HRo.out.1
            by_cases h30 : 30 < X.length
            · obtain ⟨g1, cc, e1, hn1, hm1, hcut1⟩ := own_cut HRo.out.1 h30
              rw [← iv_take] at hcut1
              obtain ⟨e5, e7⟩ : a1 = some ⟨g1, 0, none⟩ ∧ c1 = cc := by simpa using e1
              subst e5 e7
              have HLl := hid (show (X.take 30).length ≤ 30 by rw [List.length_take]; omega)
              have HLp := hid (HXs.out.sublist (List.take_sublist 30 X))
              have e30 : (X.take 30).length = 30 := by rw [List.length_take]; omega
              have HLo : Hid (w1.ownsRow w.heap.size 3 1 (.slice (some ⟨g1, 0, none⟩) 30 c1) (X.take 30).length (I.iv (X.take 30))) := by
                show w1.ownsRow _ _ _ _ _ _
                rw [e30]
                exact hcut1
              have t5 : (30 : Int) < (X.length : Int) := by omega
              have t6 : (30 : Int) ≤ (c1 : Int) := by omega
              clear hcut1 e1 e30 h30
              have HSa := hid (HS1.out.step (alloc_fr w1 (.cells #[Value.slice (some ⟨g1, 0, none⟩) 30 c1] 36) _))
              have HRa := hid (HR1.out.step (alloc_fr w1 (.cells #[Value.slice (some ⟨g1, 0, none⟩) 30 c1] 36) _))
              have HLr := hid (own_fr HLo.out (alloc_fr w1 (.cells #[Value.slice (some ⟨g1, 0, none⟩) 30 c1] 36) (fun _ => False)) (fun _ _ h => h))
              have HO := hid HSa.out.own
              rw [HU.out] at HO
              go_wp2_with (at_builtin; go_must (refine wpList_append_own_at _ rfl (.tmp 59) (.tmp 61) 38 rfl w.heap.size 36 i1 _ 1 24 Try.underlying38 hi1 hy0 hy1 hy2 rfl (by decide) _ i us2 rfl HO.out ⟨w1.heap.size, 0, none⟩ 1 1 [Value.slice (some ⟨g1, 0, none⟩) 30 c1] rfl rfl (cells_new w1 _ _) (fun u hu => by simp at hu; rw [hu]; rfl) (by unfold maxLen; omega) (by omega) (by simp; omega) ?_))
              intro v' w4 hown hgrow hnil hat
              have hsn := HSa.out.snoc HLr.out (by rw [HU.out]; exact hown) hgrow
              have HSn := hid hsn
              have HRn := hid (HRa.out.kpc (KpC.grown HO.out hgrow) (by decide) (by decide) hsn.fr)
              have HTn := hid (show tot (ls2 ++ [X.take 30]) ≤ 30 * (i + 1) by rw [tot_snoc]; have := HTo.out; have := HLl.out; omega)
              have HUn := hid (show (us2 ++ [Value.slice (some ⟨g1, 0, none⟩) 30 c1]).length = i + 1 by rw [List.length_append, HU.out]; rfl)
              have HPn : Hid (∀ l ∈ ls2 ++ [X.take 30], l.Pairwise (fun a b => a ≤ b)) := fun l hl => by
                rw [List.mem_append, List.mem_singleton] at hl
                rcases hl with hl | rfl
                · exact HPo.out l hl
                · exact HLp.out
              clear hsn hown hgrow hnil hat HO HSa HRa HLr HS1 HR1 HLo HTo HLl HPo HLp
              go_wp2_with fail
              go_roundg go
              case measure => omega
              case rel => exact ⟨i + 1, us2 ++ [Value.slice (some ⟨g1, 0, none⟩) 30 c1], ls2 ++ [X.take 30], by go_num, by have := HG.out; omega, HUn, HTn, HPn, HSn, HRn⟩
            · have t5 : ¬ (30 : Int) < (X.length : Int) := by omega
              have HLl := hid (show X.length ≤ 30 by omega)
              have HLp := HXs
              have HLo : Hid (w1.ownsRow w.heap.size 3 1 (.slice a1 X.length c1) X.length (I.iv X)) := HRo.out.1
              clear h30
              have HSa := hid (HS1.out.step (alloc_fr w1 (.cells #[Value.slice a1 X.length c1] 36) _))
              have HRa := hid (HR1.out.step (alloc_fr w1 (.cells #[Value.slice a1 X.length c1] 36) _))
              have HLr := hid (own_fr HLo.out (alloc_fr w1 (.cells #[Value.slice a1 X.length c1] 36) (fun _ => False)) (fun _ _ h => h))
              have HO := hid HSa.out.own
              rw [HU.out] at HO
              go_wp2_with (at_builtin; go_must (refine wpList_append_own_at _ rfl (.tmp 59) (.tmp 61) 38 rfl w.heap.size 36 i1 _ 1 24 Try.underlying38 hi1 hy0 hy1 hy2 rfl (by decide) _ i us2 rfl HO.out ⟨w1.heap.size, 0, none⟩ 1 1 [Value.slice a1 X.length c1] rfl rfl (cells_new w1 _ _) (fun u hu => by simp at hu; rw [hu]; rfl) (by unfold maxLen; omega) (by omega) (by simp; omega) ?_))
              intro v' w4 hown hgrow hnil hat
              have hsn := HSa.out.snoc HLr.out (by rw [HU.out]; exact hown) hgrow
              have HSn := hid hsn
              have HRn := hid (HRa.out.kpc (KpC.grown HO.out hgrow) (by decide) (by decide) hsn.fr)
              have HTn := hid (show tot (ls2 ++ [X]) ≤ 30 * (i + 1) by rw [tot_snoc]; have := HTo.out; have := HLl.out; omega)
              have HUn := hid (show (us2 ++ [Value.slice a1 X.length c1]).length = i + 1 by rw [List.length_append, HU.out]; rfl)
              have HPn : Hid (∀ l ∈ ls2 ++ [X], l.Pairwise (fun a b => a ≤ b)) := fun l hl => by
                rw [List.mem_append, List.mem_singleton] at hl
                rcases hl with hl | rfl
                · exact HPo.out l hl
                · exact HLp.out
              clear hsn hown hgrow hnil hat HO HSa HRa HLr HS1 HR1 HLo HTo HLl HPo HLp
              go_wp2_with fail
              go_roundg go
              case measure => omega
              case rel => exact ⟨i + 1, us2 ++ [Value.slice a1 X.length c1], ls2 ++ [X], by go_num, by have := HG.out; omega, HUn, HTn, HPn, HSn, HRn⟩
    | succ go =>
      have t0 : (0 : Int) ≤ (i : Int) := by omega
      have t1 : (i : Int) < (LR.length : Int) := by omega
      have t2 : (i : Int) < 40 := by omega
      have HG := hid hg
      obtain ⟨b, o, rfl, hel⟩ := HV.out (by omega)
      obtain ⟨u, hc, hu⟩ := hel i (by omega)
      have hc1 := ci_fr hc HS.out.fr
      have hbl := World.block_lt_of_cell? _ _ hc1
      have HOr := hid (ordered_any wr (hu.step HS.out.fr))
      have hXl := ordL_len2 (LR[i]?.getD []) 200
      generalize ordL ((LR[i]?.getD []).take 200) = X at *
      obtain ⟨au, cu, rfl, _⟩ := hu
      generalize (LR[i]?.getD []).length = lu at *
      clear hc hel hg
      have hwr : w.heap.size ≤ wr.heap.size := HS.out.fr.size
      go_wp2_with fail
      refine HOr.out.mono ?_
      rintro r w1 ⟨v1, rfl, hro⟩
      have HS1 := hid (HS.out.step hro.2)
      have HRo := hid (Ro7.behind hro HS.out.fr)
      have hw1 : w.heap.size ≤ w1.heap.size := HS1.out.fr.size
      clear hro HOr HS hc1 hbl
      obtain ⟨a1, c1, rfl⟩ := own_nil_shape HRo.out.1
      by_cases h30 : 30 < X.length
      · obtain ⟨g1, cc, e1, hn1, hm1, hcut1⟩ := own_cut HRo.out.1 h30
        rw [← rc_cut] at hcut1
        obtain ⟨e5, e7⟩ : a1 = some ⟨g1, 0, none⟩ ∧ c1 = cc := by simpa using e1
        subst e5 e7
        have HLl := hid (show (X.take 30).length ≤ 30 by rw [List.length_take]; omega)
        have e30 : (X.take 30).length = 30 := by rw [List.length_take]; omega
        have HLo : Hid (w1.ownsRow w.heap.size 54 7 (.slice (some ⟨g1, 0, none⟩) 30 c1) (X.take 30).length (rc (X.take 30))) := by
          show w1.ownsRow _ _ _ _ _ _
          rw [e30]
          exact hcut1
        have t5 : (30 : Int) < (X.length : Int) := by omega
        have t6 : (30 : Int) ≤ (c1 : Int) := by omega
        clear hcut1 e1 e30 h30
        have HSa := hid (HS1.out.step (alloc_fr w1 (.cells #[Value.slice (some ⟨g1, 0, none⟩) 30 c1] 22) _))
        have HLr := hid (own_fr HLo.out (alloc_fr w1 (.cells #[Value.slice (some ⟨g1, 0, none⟩) 30 c1] 22) (fun _ => False)) (fun _ _ h => h))
        have HO := hid HSa.out.own
        rw [HU.out] at HO
        go_wp2_with (at_builtin; go_must (refine wpList_append_own_at _ rfl (.tmp 35) (.tmp 37) 25 rfl w.heap.size 22 i0 _ 1 24 Try.underlying25 hi0 hz0 hz1 hz2 rfl (by decide) _ i us rfl HO.out ⟨w1.heap.size, 0, none⟩ 1 1 [Value.slice (some ⟨g1, 0, none⟩) 30 c1] rfl rfl (cells_new w1 _ _) (fun u hu => by simp at hu; rw [hu]; rfl) (by unfold maxLen; omega) (by omega) (by simp; omega) ?_))
        intro v' w4 hown hgrow hnil hat
        have HSn := hid (HSa.out.snoc HLr.out (by rw [HU.out]; exact hown) hgrow)
        have HTn := hid (show tot (ls ++ [X.take 30]) ≤ 30 * (i + 1) by rw [tot_snoc]; have := HTo.out; have := HLl.out; omega)
        have HUn := hid (show (us ++ [Value.slice (some ⟨g1, 0, none⟩) 30 c1]).length = i + 1 by rw [List.length_append, HU.out]; rfl)
        clear hown hgrow hnil hat HO HSa HLr HS1 HLo HTo HLl
        go_wp2_with fail
        go_roundg go
        case measure => omega
        case rel => exact ⟨i + 1, us ++ [Value.slice (some ⟨g1, 0, none⟩) 30 c1], ls ++ [X.take 30], by go_num, by have := HG.out; omega, HUn, HTn, HSn⟩
      · have t5 : ¬ (30 : Int) < (X.length : Int) := by omega
        have HLl := hid (show X.length ≤ 30 by omega)
        have HLo : Hid (w1.ownsRow w.heap.size 54 7 (.slice a1 X.length c1) X.length (rc X)) := HRo.out.1
        clear h30
        have HSa := hid (HS1.out.step (alloc_fr w1 (.cells #[Value.slice a1 X.length c1] 22) _))
        have HLr := hid (own_fr HLo.out (alloc_fr w1 (.cells #[Value.slice a1 X.length c1] 22) (fun _ => False)) (fun _ _ h => h))
        have HO := hid HSa.out.own
        rw [HU.out] at HO
        go_wp2_with (at_builtin; go_must (refine wpList_append_own_at _ rfl (.tmp 35) (.tmp 37) 25 rfl w.heap.size 22 i0 _ 1 24 Try.underlying25 hi0 hz0 hz1 hz2 rfl (by decide) _ i us rfl HO.out ⟨w1.heap.size, 0, none⟩ 1 1 [Value.slice a1 X.length c1] rfl rfl (cells_new w1 _ _) (fun u hu => by simp at hu; rw [hu]; rfl) (by unfold maxLen; omega) (by omega) (by simp; omega) ?_))
        intro v' w4 hown hgrow hnil hat
        have HSn := hid (HSa.out.snoc HLr.out (by rw [HU.out]; exact hown) hgrow)
        have HTn := hid (show tot (ls ++ [X]) ≤ 30 * (i + 1) by rw [tot_snoc]; have := HTo.out; have := HLl.out; omega)
        have HUn := hid (show (us ++ [Value.slice a1 X.length c1]).length = i + 1 by rw [List.length_append, HU.out]; rfl)
        clear hown hgrow hnil hat HO HSa HLr HS1 HLo HTo HLl
        go_wp2_with fail
        go_roundg go
        case measure => omega
        case rel => exact ⟨i + 1, us ++ [Value.slice a1 X.length c1], ls ++ [X], by go_num, by have := HG.out; omega, HUn, HTn, HSn⟩
end Go.Proofs.Ytilgkfpicdmkkaa.M
