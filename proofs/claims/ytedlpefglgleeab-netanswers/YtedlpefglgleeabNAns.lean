/- NetAnswers: the walk. -/
import Derived.Test.YtedlpefglgleeabNBk7
namespace Go.Proofs.Ytedlpefglgleeab
open Go.RowKit

set_option maxHeartbeats 16000000 in
set_option maxRecDepth 100000 in
theorem ans_walk {w : World} {v0 : Value} {L : List (List Nat)} (hL : Bss w v0 L) : Calls Try.prog 5 #[v0] w fun e w' => e = .returned (.bool true) ∧ Fr w w' (fun _ => False) := by
  obtain ⟨i0, hi, hz0, hz1, hz2⟩ := info_parts Try.info5
  obtain ⟨j0, hj, hy0, hy1, hy2⟩ := info_parts Try.info_slq
  have HL := hid hL
  obtain ⟨aL, cL, rfl, hLl, _⟩ := hL
  have HN1 := hid (nnew_o (w := w) w (a := 200) (b := 200) (by omega) (by omega) (Nat.le_refl _))
  have HO1 := hid (fun (W : World) A O (h : NO w W A (np0 200 200) O) (hf : Fr w W (fun _ => False)) => h.opens hf 1)
  have HO2 := hid (fun (W : World) A O (h : NO w W A (openS (np0 200 200) 1) O) (hf : Fr w W (fun _ => False)) => h.opens hf 2)
  obtain ⟨ho1, ho2, ho3⟩ := ot_open (P := fun _ => (Value.slice none 0 0, [])) rfl rfl
  rw [ho1] at HO1
  rw [ho2] at HO2
  have HOT := hid ho3
  have HMK := hidq (fun W : World => run_make_row' (P := Try.prog) 43 22 (.slice none 0 0) 24 Try.underlying43 Try.info_slq rfl .i64 .i64 3 (by omega) (by omega) W)
  clear ho1 ho2 ho3
  generalize openS (openS (np0 200 200) 1) 2 = s0 at *
  generalize openS (np0 200 200) 1 = s1 at *
  go_enter Try.func5, Try.ntmps5
  go_wp2_with fail
  refine HN1.out.mono ?_
  rintro e w1 ⟨A, rfl, O1, h1, _, h2⟩
  have H1 := hid (And.intro h1 h2)
  clear h1 h2 HN1
  go_wp2_with fail
  refine (HO1.out _ _ _ H1.out.1 H1.out.2).mono ?_
  rintro e w2 ⟨rfl, O2, h1, h2⟩
  have H2 := hid (And.intro h1 h2)
  clear h1 h2 H1 HO1
  go_wp2_with fail
  refine (HO2.out _ _ _ H2.out.1 H2.out.2).mono ?_
  rintro e w3 ⟨rfl, O3, h1, h2⟩
  have H3 := hid (AR.start h1 h2 HOT.out)
  clear h1 h2 H2 HO2
  have hmk := HMK.out w3
  rw [show ((3 : Nat) : Int) = 3 from rfl] at hmk
  go_wp2_with fail
  clear hmk HMK
  generalize w3.alloc (.cells (madeCells #[Value.slice none 0 0] 3) 22) = w4 at *
  generalize w3.heap.size = H at *
  obtain ⟨NN, hNN⟩ : ∃ NN : Nat, NN = min L.length 15 := ⟨_, rfl⟩
  have HNN := hid hNN
  clear hNN
  go_loopg [5, 6, 8] NN (fun q s5 s6 s8 wx => ∃ (i : Nat) (s : Np) (O : Nat → Prop) (P : Nat → Pr) (aK aW : Option Addr) (cK cW n : Nat) (LK LW LH : List Pr), s8 = .int .i64 (i : Int) ∧ s5 = .slice aK n cK ∧ s6 = .slice aW n cW ∧ Hid (i + q = NN) ∧ Hid (n ≤ 5 * i) ∧ Hid (AR w wx A s O H P (.slice aK n cK) (.slice aW n cW) LK LW LH i n))
  case atStart => exact ⟨0, s0, O3, _, none, none, 0, 0, 0, [], [], [], rfl, rfl, rfl, by show _ = _; omega, Nat.le_refl _, H3⟩
  case round =>
    obtain ⟨i, s, O, P, aK, aW, cK, cW, n, LK, LW, LH, rfl, rfl, rfl, HG, HNI, HI⟩ := hrel
    clear H3 HOT
    cases gk with
    | zero =>
      have hn75 : n ≤ 75 := by have := HNI.out; have := HG.out; have := HNN.out; omega
      have hi15 : i ≤ 15 := by have := HG.out; have := HNN.out; omega
      have hcs : (¬ (i : Int) < (L.length : Int)) ∨ ((i : Int) < (L.length : Int) ∧ ¬ (i : Int) < 15) := by have := HG.out; have := HNN.out; omega
      have HB : Hid (BQ w.heap.size wr wr (.slice aK n cK) (.slice aW n cW) (LK.map (·.1)) (LW.map (·.1)) (LW.map (·.2)) (LW.map (·.2)) n) := by
        have hb := HI.out.nb.books HI.out.told (fun p hp => by have := HI.out.short p hp; omega)
        rw [HI.out.n] at hb
        exact hb
      have HAP := hidq (apart_anyq HB.out (by omega))
      rcases hcs with t1 | ⟨t1, t2⟩
      all_goals go_wp2_with fail
      all_goals refine HAP.out.mono ?_
      all_goals rintro e w5 ⟨rfl, ks, hk⟩
      all_goals have H5 := hidq (HI.out.nb.spoilt (by rw [HI.out.n]; exact hk) HI.out.m.1 HI.out.m.2)
      all_goals have HT5 := hidq HI.out.ot
      all_goals clear hk HB HAP HI
      all_goals go_wp2_with fail
      all_goals go_loopg [20] 2 (fun g s20 wx => ∃ (d : Nat) (s : Np) (O : Nat → Prop) (R : List Pr), s20 = .int .i64 (d : Int) ∧ Hid (d + g = 3 ∧ 1 ≤ d) ∧ Hid (OT s P (i * 200)) ∧ Hid (NB w wx A s O H (P 1) (P 2) (.slice none 0 0) (.slice none 0 0) [] [] R))
      case atStart => exact ⟨1, s, O, LH, rfl, ⟨rfl, Nat.le_refl _⟩, HT5, H5⟩
      case atStart => exact ⟨1, s, O, LH, rfl, ⟨rfl, Nat.le_refl _⟩, HT5, H5⟩
      all_goals obtain ⟨d, s, O, R, rfl, HD, HT, HI⟩ := hrel
      all_goals clear H5 HT5
      all_goals cases gk with
      | zero =>
        have t5 : ¬ (d : Int) < 3 := by have := HD.out; omega
        go_wp2_with fail
        refine (head_any _).mono ?_
        rintro e wz ⟨rfl, h1⟩
        have HZ := hid (HI.out.fr.trans h1)
        clear h1
        go_wp2_with fail
        go_ret
        exact ⟨rfl, HZ.out⟩
      | succ g =>
        have t5 : (d : Int) < 3 := by have := HD.out; omega
        have hd : d = 1 ∨ d = 2 := by have := HD.out; omega
        have td : (0 : Int) ≤ (d : Int) := by omega
        obtain ⟨oh1, oh2, oh3, oh4⟩ := ot_heard HT.out hd
        have HH := hid (HI.out.net.heard (Nat.le_trans oh2 (by omega)) (d : Int))
        rw [oh1] at HH
        have HTB := hid oh3
        have HT2 := hid oh4
        clear oh1 oh2 oh3 oh4 HT
        go_wp2_with fail
        refine HH.out.mono ?_
        rintro e w6 ⟨u, rfl, h1, h2⟩
        obtain ⟨au, cu, hu, _, _⟩ := h1.shape
        subst hu
        have H6 := hid (HI.out.fresh h2 h1 (List.Perm.refl _))
        clear h1 h2 HH HI
        have HTK := hid (H6.out.net.take (d : Int))
        rw [HTB.out] at HTK
        generalize takeS s (d : Int) = s2 at *
        go_wp2_with fail
        refine HTK.out.mono ?_
        rintro e w7 ⟨v, rfl, h1⟩
        obtain ⟨O7, h2⟩ := H6.out.takes h1 (List.Perm.refl _)
        have H7 := hid h2
        clear h1 h2 H6 HTK
        obtain ⟨av, cv, hv, _, _⟩ := (H7.out.rows _ (List.mem_cons_self)).shape
        simp only [List.length_nil] at hv
        subst hv
        obtain ⟨hs1, hs2, hs3⟩ := H7.out.slot hd
        obtain ⟨ap, cp, hp, _, _⟩ := hs3.shape
        have HRP := hid hs3
        rw [hp] at hs1 HRP
        have HRU := hid (H7.out.rows (.slice au (P d).2.length cu, (P d).2) (by simp))
        clear hs2 hs3
        have hc1 := fun n => run_str8 Try.underlying22 Try.underlying5 Try.underlying9 (bs_all (HRU.out.fr ((Fr.refl w7 (fun _ => False)).drewN n) (fun _ _ h => h)))
        have hc10 := run_str8 Try.underlying22 Try.underlying5 Try.underlying9 (bs_all HRU.out)
        have hc2 := fun n => run_str8 Try.underlying22 Try.underlying5 Try.underlying9 (bs_all (HRP.out.fr ((Fr.refl w7 (fun _ => False)).drewN n) (fun _ _ h => h)))
        have hc20 := run_str8 Try.underlying22 Try.underlying5 Try.underlying9 (bs_all HRP.out)
        have hHl : H < w7.heap.size := lt_of_block H7.out.hh
        clear hp
        generalize str8 (P d).2 = SZ at *
        generalize (P d).2.length = lp at *
        go_wp2_with fail
        go_quiet (fail)
        clear hc1 hc10 hc2 hc20
        have H8 := hid (H7.out.still ((Fr.refl w7 (fun _ => False)).drewN nq))
        go_wp2_with fail
        go_roundg g
        case measure => omega
        case rel => exact ⟨d + 1, s2, O7, _, by go_num, ⟨by have := HD.out; omega, by omega⟩, HT2, H8⟩
    | succ q =>
      have hi9 : i < L.length ∧ i < 15 := by have := HG.out; have := HNN.out; omega
      have t1 : (i : Int) < (L.length : Int) := by omega
      have t2 : (i : Int) < 15 := by omega
      have tnn : (0 : Int) ≤ (i : Int) := by omega
      have hi15 : i < 15 := hi9.2
      obtain ⟨bL, oL, cz, az, rfl, gx, glt, gz⟩ := HL.out.at hi9.1
      have HZB := hid gz
      obtain ⟨z, hz⟩ : ∃ z, L.getD i [] = z := ⟨_, rfl⟩
      rw [hz] at gx HZB
      have HCL : Hid (∀ W, Fr w W (fun _ => False) → W.cell? ⟨bL, oL + i, none⟩ = some (.slice az z.length cz) ∧ bL < W.heap.size) := fun W hf => ⟨((fr_rulesq hf) bL _ glt).trans gx, Nat.lt_of_lt_of_le glt hf.size⟩
      clear gx glt gz hz hi9
      obtain ⟨hx, hxl⟩ := HCL.out _ HI.out.nb.fr
      by_cases hz50 : z.length ≤ 100
      · have t3 : ¬ (100 : Int) < (z.length : Int) := by omega
        obtain ⟨_, _, _, gc, gl, gb, _⟩ := HZB.out
        have hzb2 : z.length ≤ 140737488355328 := gl
        clear gc gl gb
        have HLE := hid (fun W (hf : Fr w W (fun _ => False)) => (lend_any (.slice az z.length cz) z W (by obtain ⟨_, _, _, _, _, h, _⟩ := HZB.out.loq hf; exact h) hzb2))
        obtain ⟨c, hce⟩ : ∃ c : Nat, c = 1 + i % 2 := ⟨_, rfl⟩
        have hc : c = 1 ∨ c = 2 := by omega
        obtain ⟨om0, om1, om2, om3, om4, om5, om6, om7⟩ := ot_round HI.out.ot hc hz50
        have HOM := hid (And.intro om3 om4)
        have HOS := hid om7
        clear om3 om4 om7
        have HCI := hid (show (1 + (i : Int) % 2) = (c : Int) by omega)
        clear hce
        go_wp2_with fail
        rw [HCI.out]
        clear HCI
        refine (HLE.out _ HI.out.nb.fr).mono ?_
        rintro e w5 ⟨rfl, h1, h2⟩
        obtain ⟨h5, hr5, hg5⟩ := HI.out.nb.lend h2 h1
        have H5 := hid h5
        have HR5 := hid hr5
        have HG5 := hid hg5
        clear h1 h2 h5 hr5 hg5 HLE
        generalize wr.heap.size = G at *
        have HSE := hid (H5.out.net.send (c : Int) (zs := z) rfl (HR5.out.bs (cap := z.length + 9)) (by omega))
        rw [om0] at HSE
        clear om0
        generalize sendS s c z = s6 at *
        go_wp2_with fail
        refine HSE.out.mono ?_
        rintro e w6 ⟨rfl, h1⟩
        obtain ⟨O6, h6, hr6, hg6⟩ := H5.out.lent HR5.out HG5.out h1
        have H6 := hid h6
        have HR6 := hid hr6
        have HG6 := hid hg6
        clear h1 h6 hr6 hg6 HSE H5 HR5 HG5
        have HWR := hid (H6.out.net.write (c : Int) (zs := z) rfl (HR6.out.bs (cap := z.length + 9)) (by omega))
        rw [om1, om2] at HWR
        clear om1 om2
        generalize writeS s6 c z = s7 at *
        go_wp2_with fail
        refine HWR.out.mono ?_
        rintro e w7 ⟨rfl, h1⟩
        obtain ⟨O7, h6, hr6, hg6⟩ := H6.out.lent HR6.out HG6.out h1
        have H7 := hid h6
        have HR7 := hid hr6
        have HG7 := hid hg6
        clear h1 h6 hr6 hg6 HWR H6 HR6 HG6
        clear hx hxl
        obtain ⟨hx, hxl⟩ := HCL.out _ H7.out.fr
        have HBK := hid (back_any G (.slice az z.length cz) z w7 HR7.out (by obtain ⟨_, _, _, _, _, h, _⟩ := HZB.out.loq H7.out.fr; exact h) hzb2)
        go_wp2_with fail
        refine HBK.out.mono ?_
        rintro e w8 ⟨rfl, h1⟩
        have H8 := hid (H7.out.backs HG7.out h1)
        clear h1 H7 HR7 HG7 HBK
        have HBR := hid (H8.out.net.bring (Nat.le_trans HOM.out.1 (by omega)) (c : Int) 1000)
        generalize bringS s7 c 1000 = s8 at *
        go_wp2_with fail
        refine HBR.out.mono ?_
        rintro e w9 ⟨rfl, h1⟩
        obtain ⟨O9, h2⟩ := H8.out.nets h1
        have H9 := hid h2
        clear h1 h2 HBR H8
        have HFE := hid (H9.out.net.fetch (Nat.le_trans HOM.out.2 (by omega)) (c : Int) 1000)
        generalize fetchS s8 c 1000 = s9 at *
        go_wp2_with fail
        refine HFE.out.mono ?_
        rintro e w10 ⟨rfl, h1⟩
        obtain ⟨O10, h2⟩ := H9.out.nets h1
        have H10 := hid h2
        clear h1 h2 HFE H9 HOM
        clear hx hxl
        obtain ⟨hx, hxl⟩ := HCL.out _ H10.out.fr
        obtain ⟨hs1, hs2, hs3⟩ := H10.out.slot hc
        obtain ⟨ap, cp, hp, _, _⟩ := hs3.shape
        have hHl : H < w10.heap.size := lt_of_block H10.out.hh
        have tc : (0 : Int) ≤ (c : Int) := by omega
        have tc3 : (c : Int) < 3 := by omega
        rw [hp] at hs1 hs3
        have hbl : bL < w.heap.size := (HCL.out w (Fr.refl _ _)).2
        have HZW := hid (fun (W : World) (h : Fr w10 W (fun _ => False)) => (show Bs W (.slice az z.length cz) z by obtain ⟨_, _, _, _, _, h, _⟩ := HZB.out.loq (H10.out.fr.trans h); exact h))
        have HHB := hid (fun (W : World) (h : Fr w10 W (fun _ => False)) => bs_all (hs3.fr h (fun _ _ h => h)))
        have hpl : (P c).2.length ≤ 1500 := by have := HI.out.pl; rcases hc with e | e <;> subst e <;> omega
        have hpz : (P c).2.length + z.length ≤ 140737488355328 := by omega
        have HPZ := hid hpz
        have HPL := hid (show (P c).2.length ≤ 140737488355328 by omega)
        have HKP := hid (fun (W : World) (h : Fr w10 W (fun _ => False)) => (show W.cell? ⟨bL, oL + i, none⟩ = some (.slice az z.length cz) ∧ W.frozen? ⟨H, c, none⟩ = false ∧ H < W.heap.size ∧ bL < W.heap.size from ⟨(HCL.out _ (H10.out.still h).fr).1, ((H10.out.still h).slot hc).2.1, Nat.lt_of_lt_of_le hHl h.size, (HCL.out _ (H10.out.still h).fr).2⟩))
        have HF0 : Hid (Fr w10 w10.drew (fun _ => False)) := (Fr.refl _ _).drew
        have hs10 := hs1
        clear hs2 hs3 hp hpl hpz
        go_wp2_with fail
        go_cut [119] (fun s wx => ∃ ad cd, s = .slice ad ((P c).2.length + z.length) cd ∧ Hid (NB w wx A s9 O10 H (putP P c (.slice ad ((P c).2.length + z.length) cd, (P c).2 ++ z) 1) (putP P c (.slice ad ((P c).2.length + z.length) cd, (P c).2 ++ z) 2) (.slice aK n cK) (.slice aW n cW) (LK.map (·.1)) (LW.map (·.1)) ((.slice ad ((P c).2.length + z.length) cd, (P c).2 ++ z) :: (LK ++ LW ++ LH))))
        case first =>
          go_region_law ((first
            | (refine step_copied rfl (.tmp 113) 22 rfl rfl (by simp [Act.eval]) (HHB.out _ HF0.out) HPL.out ?_; intro a2 c2 wc h1 h2; have HRC := hid h1.out; have HF1 := hid (Fr.trans HF0.out h2.out); obtain ⟨hxc, _, _, hxc2⟩ := HKP.out _ HF1.out; clear h1 h2)
            | (refine step_append_of rfl (.tmp 114) (.tmp 118) 22 rfl w10.heap.size 5 i0 Try.underlying22 hi hz0 hz1 hz2 _ (P c).2 (by simp [Act.eval]) HRC.out _ z (by simp [Act.eval]) (HZW.out _ HF1.out) HPZ.out HF1.out.size _ rfl ?_; intro ad cd wd h1 h2 h3; have HRD := hid h1.out; have HF2 : Hid (Fr w10 wd (fun _ => False)) := HF1.out.trans2 h2.out (fun k hk e => Nat.lt_irrefl _ (Nat.lt_of_lt_of_le hk (HRC.out.lt e).1)); have HX := hid (show NB w (wd.setCell ⟨H, c, none⟩ (.slice ad ((P c).2.length + z.length) cd)) A s9 O10 H (putP P c (.slice ad ((P c).2.length + z.length) cd, (P c).2 ++ z) 1) (putP P c (.slice ad ((P c).2.length + z.length) cd, (P c).2 ++ z) 2) (.slice aK n cK) (.slice aW n cW) (LK.map (·.1)) (LW.map (·.1)) ((.slice ad ((P c).2.length + z.length) cd, (P c).2 ++ z) :: (LK ++ LW ++ LH)) from (H10.out.fresh HF2.out HRD.out (List.Perm.refl _)).box hc List.mem_cons_self); obtain ⟨_, hdf, hdl, _⟩ := HKP.out _ HF2.out; have hcd := ((H10.out.still HF2.out).slot hc).1; clear h1 h2 h3)
            | fail))
          all_goals go_wp2_with fail
          all_goals go_meet
          all_goals exact ⟨_, _, rfl, HX⟩
        obtain ⟨ad, cd, rfl, HX⟩ := hcut
        have HA := hid (HI.out.put HX.out hc)
        have HT := hid (HOS.out (.slice ad ((P c).2.length + z.length) cd))
        have HP2 := hid (HI.out.lens hc hz50 (.slice ad ((P c).2.length + z.length) cd))
        clear HX HKP HHB HPZ HPL HF0 HZW HOS H10 hs1 hs10 HI hx hxl
        generalize putP P c (Value.slice ad ((P c).2.length + z.length) cd, (P c).2 ++ z) = P2 at HA HT HP2
        generalize (Value.slice ad ((P c).2.length + z.length) cd, (P c).2 ++ z) :: LH = LH2 at HA
        have HTK := hid (HA.out.nb.net.take (c : Int))
        rw [om5, om6] at HTK
        clear om5 om6
        generalize takeS s9 (c : Int) = sT at *
        go_wp2_with fail
        refine HTK.out.mono ?_
        rintro e w12 ⟨v, rfl, h1⟩
        obtain ⟨O12, h2⟩ := HA.out.nb.takes h1 (List.Perm.refl _)
        have H12 := hid h2
        clear h1 h2 HTK
        obtain ⟨av, cv, hv, _, _⟩ := (H12.out.rows _ (List.mem_cons_self)).shape
        replace hv : v = Value.slice av z.length cv := hv
        subst hv
        have hn1 : n + 1 ≤ 1000000 := by have := HNI.out; omega
        have HN1 := hid hn1
        clear hn1
        go_wp2_with (at_builtin; go_must (refine wpl_spine rfl (.tmp 129) (.tmp 131) rfl w.heap.size (.slice aK n cK) n (LK.map (·.1)) (by simp [Act.eval]) ((H12.out.laid _).skn HA.out.kn) ⟨w12.heap.size, 0, none⟩ 1 1 [.slice av z.length cv] (by simp [Act.eval]) rfl (one_newq _ _ _) (one_oneq _ _ _) HN1.out (H12.out.laid _).fr.size ?_; intro aK2 cK2 w13 h1; have H13 := hid ((H12.out.laid _).tells HA.out.kn h1.out rfl); obtain ⟨hx, hxl⟩ := HCL.out _ H13.out.fr; clear h1))
        have HCO := hid (copiedq_any (show Bs w13 (.slice az z.length cz) z by obtain ⟨_, _, _, _, _, h, _⟩ := HZB.out.loq H13.out.fr; exact h) hzb2)
        refine HCO.out.mono ?_
        rintro e w14 ⟨a4, c4, rfl, h1, h2⟩
        have H14 := hid (H13.out.fresh h2 h1 (List.Perm.refl _))
        clear h1 h2 HCO H13 hx hxl
        have hz16 : z.length ≤ 1600 := by omega
        go_wp2_with (at_builtin; go_must (refine wpl_spine rfl (.tmp 133) (.tmp 139) rfl w.heap.size (.slice aW n cW) n (LW.map (·.1)) (by simp [Act.eval]) ((H14.out.laid _).swn HA.out.wn) ⟨w14.heap.size, 0, none⟩ 1 1 [.slice a4 z.length c4] (by simp [Act.eval]) rfl (one_newq _ _ _) (one_oneq _ _ _) HN1.out (H14.out.laid _).fr.size ?_; intro aW2 cW2 w15 h1; have H15 := hid (HA.out.one (a := (.slice av z.length cv, z)) (b := (.slice a4 z.length c4, z)) ((H14.out.laid _).wants HA.out.wn h1.out rfl) rfl hz16); clear h1))
        clear HA H12 H14 HN1 hz16
        generalize LK ++ [(Value.slice av z.length cv, z)] = LK2 at H15
        generalize LW ++ [(Value.slice a4 z.length c4, z)] = LW2 at H15
        go_loopg [5, 6, 15] 2 (fun g s5 s6 s15 wx => ∃ (d n2 : Nat) (aK aW : Option Addr) (cK cW : Nat) (LK LW : List Pr), s15 = .int .i64 (d : Int) ∧ s5 = .slice aK n2 cK ∧ s6 = .slice aW n2 cW ∧ Hid (d + g = 3 ∧ 1 ≤ d) ∧ Hid (n2 + 1 = n + 2 * d) ∧ Hid (AI w wx A sT O12 H P2 (.slice aK n2 cK) (.slice aW n2 cW) LK LW LH2 n2))
        case atStart => exact ⟨1, n + 1, aK2, aW2, cK2, cW2, LK2, LW2, rfl, rfl, rfl, ⟨rfl, Nat.le_refl _⟩, by show _ = _; omega, H15⟩
        obtain ⟨d, n2, aK3, aW3, cK3, cW3, LK3, LW3, rfl, rfl, rfl, HD, HN2, HI⟩ := hrel
        clear H15
        cases gk with
        | zero =>
          have t5 : ¬ (d : Int) < 3 := by have := HD.out; omega
          go_wp2_with fail
          go_roundg q
          case measure => omega
          case rel => exact ⟨i + 1, sT, O12, P2, aK3, aW3, cK3, cW3, n2, LK3, LW3, LH2, by go_num, rfl, rfl, by have := HG.out; show _ = _; omega, by have := HNI.out; have := HN2.out; have := HD.out; show _ ≤ _; omega, HI.out.next (by have := HT.out; rwa [show i * 200 + 200 = (i + 1) * 200 by omega] at this) HP2.out⟩
        | succ g =>
          have t5 : (d : Int) < 3 := by have := HD.out; omega
          have hd : d = 1 ∨ d = 2 := by have := HD.out; omega
          have td : (0 : Int) ≤ (d : Int) := by omega
          obtain ⟨oh1, oh2, _, _⟩ := ot_heard HT.out hd
          have HO1 := hid oh1
          have HO2 := hid (Nat.le_trans oh2 (show i * 200 + 200 ≤ 3200 by omega))
          clear oh1 oh2
          have HH1 := hid (HI.out.nb.net.heard (Nat.le_trans HO2.out (by omega)) (d : Int))
          rw [HO1.out] at HH1
          have hn2 : n2 + 2 ≤ 1000000 := by have := HNI.out; have := HN2.out; omega
          have HN3 := hid hn2
          clear hn2
          have hlp : (P2 d).2.length ≤ 1600 := by have := HP2.out; rcases hd with e | e <;> subst e <;> omega
          have HLP := hid hlp
          have HLQ := hid (show (P2 d).2.length ≤ 140737488355328 by omega)
          clear hlp
          go_wp2_with fail
          refine HH1.out.mono ?_
          rintro e w16 ⟨u, rfl, h1, h2⟩
          obtain ⟨ax, cx, hu, _, _⟩ := h1.shape
          subst hu
          have H16 := hid (HI.out.nb.fresh h2 h1 (List.Perm.refl _))
          clear h1 h2 HH1
          have HH2 := hid (H16.out.net.heard (Nat.le_trans HO2.out (by omega)) (d : Int))
          rw [HO1.out] at HH2
          go_wp2_with fail
          refine HH2.out.mono ?_
          rintro e w17 ⟨u, rfl, h1, h2⟩
          obtain ⟨ay, cy, hu, _, _⟩ := h1.shape
          subst hu
          have H17 := hid (H16.out.fresh h2 h1 (List.Perm.refl _))
          clear h1 h2 HH2 H16
          go_wp2_with (at_builtin; go_must (refine wpl_spine rfl (.tmp 157) (.tmp 160) rfl w.heap.size (.slice aK3 n2 cK3) n2 (LK3.map (·.1)) (by simp [Act.eval]) ((H17.out.laid _).skn HI.out.kn) ⟨w17.heap.size, 0, none⟩ 2 2 [.slice ax (P2 d).2.length cx, .slice ay (P2 d).2.length cy] (by simp [Act.eval]) rfl (two_newq _ _ _ _) (two_oneq _ _ _ _ _ _) HN3.out (H17.out.laid _).fr.size ?_; intro aK4 cK4 w18 h1; have H18 := hid ((H17.out.laid _).tells HI.out.kn h1.out rfl); clear h1))
          clear H17
          obtain ⟨hs1, hs2, hs3⟩ := H18.out.slot hd
          obtain ⟨ap, cp, hp, _, _⟩ := hs3.shape
          have hHl : H < w18.heap.size := lt_of_block H18.out.hh
          have HKP := hid (fun (W : World) (h : Fr w18 W (fun _ => False)) => (show W.cell? ⟨H, d, none⟩ = some (.slice ap (P2 d).2.length cp) ∧ H < W.heap.size from ⟨by rw [← hp]; exact ((H18.out.still h).slot hd).1, Nat.lt_of_lt_of_le hHl h.size⟩))
          rw [hp] at hs3
          have HHB := hid (fun (W : World) (h : Fr w18 W (fun _ => False)) => bs_all (hs3.fr h (fun _ _ h => h)))
          have HF0 : Hid (Fr w18 w18.drew (fun _ => False)) := (Fr.refl _ _).drew
          clear hs1 hs2 hs3
          go_region_held3 (fun W' => W'.cell? ⟨H, d, none⟩ = some (.slice ap (P2 d).2.length cp) ∧ H < W'.heap.size)
            ((first
              | with_reducible exact HKX.out
              | with_reducible exact HKP.out _ (HFC.out.alloc _)
              | with_reducible exact HKP.out _ HFC.out
              | with_reducible exact HKP.out _ HFA.out
              | with_reducible exact HKP.out _ HFB.out
              | with_reducible exact HKP.out _ HF0.out
              | exact HKP.out _ HF0.out))
            ((first
              | (refine step_copied rfl (.tmp 166) 22 rfl rfl (by simp [Act.eval]) (HHB.out _ HF0.out) HLQ.out ?_; intro a5 c5 wa h1 h2; have HRA := hid h1.out; have HFA := hid (Fr.trans HF0.out h2.out); clear h1 h2)
              | (refine step_copied rfl (.tmp 171) 22 rfl rfl (by simp [Act.eval]) (HHB.out _ HF0.out) HLQ.out ?_; intro a6 c6 wb h1 h2; have HRB := hid h1.out; have HFB := hid (Fr.trans HF0.out h2.out); clear h1 h2)
              | (refine step_copied rfl (.tmp 171) 22 rfl rfl (by simp [Act.eval]) (HHB.out _ HFA.out) HLQ.out ?_; intro a6 c6 wc h1 h2; have HFC := hid (Fr.trans HFA.out h2.out); have HN := hid ((H18.out.fresh HFA.out HRA.out (List.Perm.refl _)).fresh h2.out h1.out (List.Perm.refl _)); clear h1 h2)
              | (refine step_copied rfl (.tmp 166) 22 rfl rfl (by simp [Act.eval]) (HHB.out _ HFB.out) HLQ.out ?_; intro a5 c5 wc h1 h2; have HFC := hid (Fr.trans HFB.out h2.out); have HN := hid ((H18.out.fresh HFB.out HRB.out (List.Perm.refl _)).fresh h2.out h1.out (List.Perm.swap _ _ _)); clear h1 h2)
              | (refine step_spine rfl (.tmp 162) (.tmp 173) rfl w.heap.size (.slice aW3 n2 cW3) n2 (LW3.map (·.1)) (by simp [Act.eval]) ((HN.out.laid _).swn HI.out.wn) ⟨wc.heap.size, 0, none⟩ 2 2 [.slice a5 (P2 d).2.length c5, .slice a6 (P2 d).2.length c6] (by simp [Act.eval]) rfl (two_newq _ _ _ _) (two_oneq _ _ _ _ _ _) HN3.out (HN.out.laid _).fr.size ?_; intro aW4 cW4 wd h1; have HX := hid (HI.out.two (a := (.slice ax (P2 d).2.length cx, (P2 d).2)) (b := (.slice ay (P2 d).2.length cy, (P2 d).2)) (c := (.slice a5 (P2 d).2.length c5, (P2 d).2)) (d := (.slice a6 (P2 d).2.length c6, (P2 d).2)) ((HN.out.laid _).wants HI.out.wn h1.out rfl) rfl rfl HLP.out HLP.out); have HKX := hid (show wd.cell? ⟨H, d, none⟩ = some (.slice ap (P2 d).2.length cp) ∧ H < wd.heap.size from ⟨by rw [← hp]; exact (HX.out.nb.slot hd).1, lt_of_block HX.out.nb.hh⟩); clear h1)
              | fail))
          all_goals clear HKX HKP HHB HF0 HFC HN
          all_goals go_wp2_with fail
          all_goals go_roundg g
          all_goals first
            | exact ⟨d + 1, n2 + 2, aK4, aW4, cK4, cW4, _, _, by go_num, rfl, rfl, ⟨by have := HD.out; omega, by omega⟩, by have := HN2.out; show _ = _; omega, HX⟩
            | omega
      · have t3 : (100 : Int) < (z.length : Int) := by omega
        go_wp2_with fail
        go_roundg q
        case measure => omega
        case rel => exact ⟨i + 1, s, O, P, aK, aW, cK, cW, n, LK, LW, LH, by go_num, rfl, rfl, by have := HG.out; show _ = _; omega, by have := HNI.out; show _ ≤ _; omega, HI.out.later (by omega)⟩
end Go.Proofs.Ytedlpefglgleeab
