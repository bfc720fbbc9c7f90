/- NetMany: the walk. -/
import Derived.Test.YtljkbnjdciljfaaNManyB
import Derived.Deep.RegionHeld3
import Derived.Deep.DeepCutAuto
import Derived.Deep.DeepMust
namespace Go.Proofs.Ytljkbnjdciljfaa
open Go.RowKit

theorem rw_bs {W : World} {lo : Nat} {ao : Option Addr} {n cap : Nat} {xs : List Nat} (h : Rw W lo 5 (.slice ao n cap) xs) (hn : xs.length = n) : Bs W (.slice ao n cap) xs ∧ n ≤ cap ∧ cap ≤ maxLen := by
  subst hn
  obtain ⟨_, _, e, h1, h2⟩ := h.shape
  simp only [Value.slice.injEq] at e
  obtain ⟨_, _, rfl⟩ := e
  exact ⟨bs_all h, h1, h2⟩
set_option maxHeartbeats 16000000 in
set_option maxRecDepth 100000 in
theorem many_walk {w : World} (n0 n1 n2 : Int) : Calls Try.prog 6 #[.int .i64 n0, .int .i64 n1, .int .i64 n2] w fun e w' => e = .returned (.bool true) ∧ Fr w w' (fun _ => False) := by
  obtain ⟨i0, hi, hz0, hz1, hz2⟩ := info_parts Try.info5
  have HW0 := hid (within_any n0 64 (by omega) (by omega) w)
  have HW1 := hid (within_any n1 60 (by omega) (by omega) w)
  have HW2 := hid (within_any n2 9 (by omega) (by omega) w)
  obtain ⟨q0, hq0⟩ : ∃ q : Nat, n0 % 64 = (q : Int) := ⟨(n0 % 64).toNat, by omega⟩
  obtain ⟨lg, hlg⟩ : ∃ q : Nat, n1 % 60 = (q : Int) := ⟨(n1 % 60).toNat, by omega⟩
  obtain ⟨q2, hq2⟩ : ∃ q : Nat, n2 % 9 = (q : Int) := ⟨(n2 % 9).toNat, by omega⟩
  have hl0 : q0 < 64 := by omega
  have hl1 : lg ≤ 59 := by omega
  have hl2 : q2 < 9 := by omega
  rw [hq0] at HW0
  rw [hlg] at HW1
  rw [hq2] at HW2
  obtain ⟨N, hN⟩ : ∃ N, 1 + q0 = N := ⟨_, rfl⟩
  obtain ⟨p, hp⟩ : ∃ p, 1 + q2 = p := ⟨_, rfl⟩
  have eN : (1 : Int) + (q0 : Int) = (N : Int) := by omega
  have ep : (1 : Int) + (q2 : Int) = (p : Int) := by omega
  have hN1 : 1 ≤ N := by omega
  have hN2 : N ≤ 64 := by omega
  have hp1 : 1 ≤ p := by omega
  have hp2 : p ≤ 9 := by omega
  clear hN hp hq0 hlg hq2 hl0 hl2
  have HN1 := hid (nnew_i (w := w) w (a := 7) (b := 5) (by omega) (by omega) (Fr.refl _ _))
  go_enter Try.func6, Try.ntmps6
  go_wp2_with fail
  refine HW0.out.mono ?_
  rintro e w1 ⟨rfl, h9⟩
  obtain rfl : w = w1 := h9.symm
  clear h9
  go_wp2_with fail
  refine HW1.out.mono ?_
  rintro e w1 ⟨rfl, h9⟩
  obtain rfl : w = w1 := h9.symm
  clear h9
  go_wp2_with fail
  refine HW2.out.mono ?_
  rintro e w1 ⟨rfl, h9⟩
  obtain rfl : w = w1 := h9.symm
  clear h9 HW0 HW1 HW2
  go_wp2_with fail
  clear eN ep
  refine HN1.out.mono ?_
  rintro e w1 ⟨A, rfl, h1⟩
  have H1 := hid h1
  have HM1 := hid (MO.new lg)
  clear h1 HN1
  go_wp2_with fail
  go_loopw [9] (fun s9 wx => ∃ (k : Nat) (s : Np), 1 ≤ k ∧ k ≤ N + 1 ∧ s9 = .int .i64 (k : Int) ∧ Hid (NI w wx A s) ∧ Hid (MO s k lg)) (fun s9 _ => N + 1 - (intOf s9).toNat)
  case atStart => exact ⟨1, _, Nat.le_refl _, by omega, rfl, H1, HM1⟩
  case round =>
    obtain ⟨k, s, hk1, hkN, rfl, HI, HM⟩ := hrel
    clear H1 HM1
    by_cases hlt : k ≤ N
    · have t1 : (k : Int) ≤ (N : Int) := by omega
      obtain ⟨e1, e2, e3⟩ := HM.out.step hk1 (by omega) (by omega)
      have HOP := hid (HI.out.open (k : Int))
      rw [e1] at HOP
      have HBY := hid (fun W (hf : Fr w W (fun _ => False)) => bytes_i (w := w) W (k : Int) k lg rfl (by omega) (by omega) hf)
      have HSD := hid (fun W ao cap (hI : NI w W A (openS s k)) (hr : Rw W w.heap.size 5 (.slice ao lg cap) (byL k lg)) => hI.send (k : Int) (byL_length k lg).symm (rw_bs hr (byL_length k lg)).1 (rw_bs hr (byL_length k lg)).2.1)
      rw [e2] at HSD
      have HM2 := hid e3
      clear e1 e2 e3 HM
      generalize sendS (openS s k) k (byL k lg) = s2 at *
      generalize openS s k = s1 at *
      go_wp2_with fail
      refine HOP.out.mono ?_
      rintro e wa ⟨rfl, h1⟩
      have HA := hid h1
      clear h1 HOP HI
      go_wp2_with fail
      refine (HBY.out _ HA.out.fr).mono ?_
      rintro e wb ⟨ao, cap, rfl, h1, h2⟩
      have HB := hid (HA.out.still h2)
      have HR := hid h1
      clear h1 h2 HA HBY
      go_wp2_with fail
      refine (HSD.out _ _ _ HB.out HR.out).mono ?_
      rintro e wc ⟨rfl, h1⟩
      have HC := hid h1
      clear h1 HSD HB HR
      go_wp2
      exact ⟨⟨k + 1, s2, by omega, by omega, by go_num, HC, HM2⟩, by simp [intOf]; omega⟩
    · have t1 : ¬ (k : Int) ≤ (N : Int) := by omega
      obtain rfl : k = N + 1 := by omega
      have HMS := hid HM.out.ms
      clear HM hk1 hkN hlt
      go_wp2_with (at_make; go_must (refine wpl_make1 Try.underlying48 infoS rfl (by decide) _ rfl (.tmp 61) (.tmp 61) rfl _ (N + 1) (by simp) rfl rfl (by omega) ?_))
      intro w2 HQ HFQ
      go_wp2_with (at_make; go_must (refine wpl_make1 Try.underlying49 infoN rfl (by decide) _ rfl (.tmp 64) (.tmp 64) rfl _ (N + 1) (by simp) rfl rfl (by omega) ?_))
      intro w3 HR HFR
      have H3 := hid (NM.start HI.out HQ.out HFQ.out HR.out HFR.out)
      clear HI HQ HFQ HR HFR
      generalize wr.heap.size = Q at *
      generalize w2.heap.size = R at *
      go_wp2_with fail
      go_loopw [12] (fun s12 wx => ∃ (k : Nat) (s : Np) (vs : List Value) (Ls : List (List Nat)) (os : List Nat) (f : Nat → Cp) (m : Nat), k ≤ 70 ∧ s12 = .int .i64 (k : Int) ∧ Hid (NM w wx A s Q vs Ls R os) ∧ Hid (MS s N lg (fun _ => k) f Ls os m)) (fun s12 _ => 70 - (intOf s12).toNat)
      case atStart => exact ⟨0, s, _, _, _, _, 0, by omega, rfl, H3, HMS⟩
      case round =>
        clear H3 HMS
        obtain ⟨k, s, vs, Ls, os, f, m, hk7, rfl, HI, HM⟩ := hrel
        by_cases hlt : k < 70
        · have t1 : (k : Int) < 70 := by omega
          have HM0 := hid (MS.congr (r' := fun d => if N < d then k + 1 else k) HM.out (fun d _ h2 => by rw [if_neg (by omega)]))
          clear HM
          go_wp2_with fail
          go_loopw [13] (fun s13 wx => ∃ (C : Nat) (s : Np) (vs : List Value) (Ls : List (List Nat)) (os : List Nat) (f : Nat → Cp) (m : Nat), C ≤ N ∧ s13 = .int .i64 (C : Int) ∧ Hid (NM w wx A s Q vs Ls R os) ∧ Hid (MS s N lg (fun d => if C < d then k + 1 else k) f Ls os m)) (fun s13 _ => (intOf s13).toNat)
          case atStart => exact ⟨N, s, vs, Ls, os, f, m, Nat.le_refl _, rfl, HI, HM0⟩
          case round =>
            clear HI HM0
            obtain ⟨C, s, vs, Ls, os, f, m, hCN, rfl, HI, HM⟩ := hrel
            by_cases hC : 1 ≤ C
            · have t2 : (1 : Int) ≤ (C : Int) := by omega
              obtain ⟨b, k2, f', m', e1, e2, e3, e4, e5, e6, e7, e8, e9, e10, e11⟩ := HM.out.round hC hCN hN2 hl1 hp1
              have hvl : vs.length = N + 1 := by rw [HI.out.len, HM.out.ll]
              have hol : os.length = N + 1 := HM.out.lo
              have HBR := hid (HI.out.bring (by omega) (C : Int) (p : Int))
              have HTK := hid (fun W (h : NM w W A (bringS s C p) Q vs Ls R os) => h.take (C : Int))
              rw [e3, e4] at HTK
              have HVL := hid hvl
              have HOL := hid hol
              have HM2 := hid (MS.congr (r' := fun d => if C - 1 < d then k + 1 else k) e11 (fun d _ _ => by
                split <;> split <;> (try split) <;> omega))
              obtain ⟨o, ho⟩ : ∃ o, os.getD C 0 = o := ⟨_, rfl⟩
              obtain ⟨z, hz⟩ : ∃ z, (byL (C + 100) lg).drop o = z := ⟨_, rfl⟩
              rw [ho] at e6 e8 e9 e10 HM2
              rw [hz] at e8 e10 HM2
              have HO := hid ho
              have HZ := hid hz
              have HE5 := hid e5
              have HE8 := hid e8
              have HE10 := hid e10
              clear HM e1 e2 e3 e4 e5 e8 e10 e11 hvl hol ho hz
              generalize bringS s C p = s1 at *
              generalize takeS s1 C = s2 at *
              obtain ⟨s3, hs3⟩ : ∃ s3, writeS s2 C z = s3 := ⟨_, rfl⟩
              rw [hs3] at HM2 HE10
              have HS3 := hid hs3
              clear hs3
              go_wp2_with fail
              refine HBR.out.mono ?_
              rintro e wa ⟨rfl, h1⟩
              have HA := hid h1
              clear h1 HBR HI
              go_wp2_with fail
              refine (HTK.out _ HA.out).mono ?_
              rintro e wb ⟨v, rfl, h0, h1⟩
              obtain ⟨av, cv, hv9, _, _⟩ := h0.shape
              subst hv9
              have HV := hid h0
              have HB := hid h1
              clear h0 h1 HTK HA
              obtain ⟨ao, cap, hv, hc, hrw⟩ := HB.out.row (i := C) (by have := HVL.out; omega)
              have HHV := hid hv
              have HRW := hid hrw
              have tc0 : (0 : Int) ≤ (C : Int) := by omega
              have tcN : (C : Int) < (N : Int) + 1 := by omega
              have hszB := HB.out.fr.size
              have hQ := HB.out.lt.1
              clear hv hrw
              generalize hll : (Ls.getD C []).length = ll at *
              have HLL := hid hll
              clear hll
              go_wp2_with (at_builtin; refine wpl_rw _ rfl (.tmp 92) (.tmp 93) 33 rfl w.heap.size 5 i0 Try.underlying33 hi hz0 hz1 hz2 _ (Ls.getD C []) (by rfl) HRW.out _ b (by rfl) (bs_all HV.out) (by have := HLL.out; omega) hszB (ll + b.length) (by rw [HLL.out]) ?_)
              intro a3 c3 w6 h31 h32 h33
              obtain ⟨⟨u9, hu⟩, hfz, hlt9, hnm⟩ := HB.out.put (i := C) (by have := HVL.out; omega) HHV.out h32.out h31.out h33.out
              have H6 := hid hnm
              clear h31 h32 h33 HB HRW HHV hc hnm hQ hszB HV
              go_wp2_with fail
              clear hu hfz hlt9
              generalize w6.setCell ⟨Q, C, none⟩ (.slice a3 (ll + b.length) c3) = w7 at *
              have hnc := H6.out.num (i := C) (by have := HOL.out; omega)
              rw [HO.out] at hnc
              have hRl := H6.out.lt.2
              have HCL : Hid (∀ W', Fr w7 W' (fun _ => False) → W'.cell? ⟨R, C, none⟩ = some (.int .i64 (o : Int)) ∧ R < W'.heap.size) := fun W' hf => ⟨by rw [World.cell?_of_block (w := w7) (hf.block R hRl (fun h => h))]; exact hnc, Nat.lt_of_lt_of_le hRl hf.size⟩
              have HBY := hid (fun W (hf : Fr w7 W (fun _ => False)) => bytes_i (w := w) W ((C : Int) + 100) (C + 100) lg (by simp) (by omega) (by omega) (H6.out.fr.trans hf))
              have hsl : ∀ (W : World) (ao : Option Addr) (cap : Nat), (Instr.slice 33 (.slice ao lg cap) (some (.int .i64 (o : Int))) none none).run Try.prog W = .ok (.slice (sa o ao cap) (lg - o) (cap - o)) W := fun W ao cap => slice_run ao lg cap o e6
              have HWR : Hid (∀ (W : World) (ao : Option Addr) (cap : Nat), Fr w7 W (fun _ => False) → Rw W w.heap.size 5 (.slice ao lg cap) (byL (C + 100) lg) → Calls Try.prog 23 #[.pointer (some ⟨A, 0, none⟩), .int .i64 (C : Int), .slice (sa o ao cap) (lg - o) (cap - o)] W fun e w' => e = .returned (.tuple #[.int .i64 (k2 : Int), .int .i64 0]) ∧ NM w w' A s3 Q (vs.set C (.slice a3 (ll + b.length) c3)) (Ls.set C (Ls.getD C [] ++ b)) R os) := by
                intro W ao cap hf hr
                obtain ⟨g1, g2⟩ := bs_from hr (byL_length _ _).symm o e6
                obtain ⟨_, g3, _⟩ := rw_bs hr (byL_length _ _)
                rw [HZ.out] at g1 g2
                refine ((H6.out.still hf).write (C : Int) g2 g1 (by omega)).mono ?_
                rintro e w' ⟨rfl, h1⟩
                rw [HE8.out, HE5.out]
                exact ⟨rfl, HS3.out ▸ h1⟩
              have HKN : Hid (∀ W', NM w W' A s3 Q (vs.set C (.slice a3 (ll + b.length) c3)) (Ls.set C (Ls.getD C [] ++ b)) R os → W'.cell? ⟨R, C, none⟩ = some (.int .i64 (o : Int)) ∧ R < W'.heap.size) := fun W' h => ⟨by have h1 := h.num (i := C) (by have := HOL.out; omega); rw [HO.out] at h1; exact h1, h.lt.2⟩
              have HF2 : Hid (Fr w7 w7 (fun _ => False)) := Fr.refl _ _
              have hwr : IntKind.i64.wrap ((C : Int) + 100) = (C : Int) + 100 := wrap_fit (by unfold fits; omega)
              go_wp2_with fail
              go_region_held3 (fun W' => W'.cell? ⟨R, C, none⟩ = some (.int .i64 (o : Int)) ∧ R < W'.heap.size)
                ((first | exact HK8.out | (refine HCL.out _ ?_; first | exact HF3.out | exact HF3.out.drewN _ | exact HF2.out | exact HF2.out.drewN _)))
                ((first
                  | (go_at_call 21; refine (HBY.out _ (by first | exact HF2.out | exact HF2.out.drewN _)).mono ?_; rintro e wc ⟨ao4, cap4, rfl, hr4, hf4⟩; have HR4 := hid hr4; have HF3 := hid (Fr.trans (by first | exact HF2.out | exact HF2.out.drewN _) hf4); clear hr4 hf4)
                  | (go_at_call 23; refine (HWR.out _ _ _ HF3.out HR4.out).mono ?_; rintro e wd ⟨rfl, h1⟩; have H8 := hid h1; have HK8 := hid (HKN.out _ h1); clear h1)))
              all_goals
                clear HCL HBY HWR HF2 HF3 HR4 hsl HKN hnc H6
                have hnd := HK8.out.1
                have hRd := HK8.out.2
                obtain ⟨hfz, _, hnm⟩ := H8.out.note C (o + k2)
                rw [Int.natCast_add] at hnm
                have H9 := hid hnm
                have HFE := hid (hnm.fetch (Nat.le_trans HE10.out (by decide)) (C : Int) (p : Int))
                have HF9 := hid H8.out.fr
                clear hnm H8 HK8
                go_wp2_with fail
                refine HFE.out.mono ?_
                rintro e we ⟨rfl, h1⟩
                have HX := hid h1
                clear h1 HFE H9
                go_wp2
                exact ⟨⟨C - 1, _, _, _, _, f', m', by omega, by rw [show ((C - 1 : Nat) : Int) = (C : Int) - 1 from by omega], HX, HM2⟩, by simp [intOf]; omega⟩
            · have t2 : ¬ (1 : Int) ≤ (C : Int) := by omega
              have HM2 := hid (MS.congr (r' := fun _ => k + 1) HM.out (fun d h1 _ => by rw [if_pos (by omega)]))
              clear HM
              go_wp2
              exact ⟨⟨k + 1, s, vs, Ls, os, f, m, by omega, by go_num, HI, HM2⟩, by simp [intOf]; omega⟩
        · have t1 : ¬ (k : Int) < 70 := by omega
          obtain rfl : k = 70 := by omega
          obtain ⟨hd1, hd2⟩ := HM.out.done hl1
          have hm9 : s.m = m := (HM.out.one 1 (Nat.le_refl _) hN1).m
          have hvl : vs.length = N + 1 := by rw [HI.out.len, HM.out.ll]
          have hmle := HM.out.mle hN2 hl1
          have HD := hid hd1
          have HVL := hid hvl
          have HMM := hid hm9
          have HME := hid hd2
          have HSM : Hid (s.m ≤ 70368744177664) := by rw [hm9]; exact Nat.le_trans hmle (by decide)
          have HML : Hid (ML s 1 N m) := ⟨fun d h1 h2 h3 => (hd1 d h2 h3).2.2.2, hm9⟩
          clear HM hd1 hd2 hvl hm9 hk7 hlt
          go_wp2_with fail
          go_loopw [18] (fun s18 wx => ∃ c : Nat, 1 ≤ c ∧ c ≤ N + 1 ∧ s18 = .int .i64 (c : Int) ∧ Hid (NM w wx A s Q vs Ls R os)) (fun s18 _ => N + 1 - (intOf s18).toNat)
          case atStart => exact ⟨1, Nat.le_refl _, by omega, rfl, HI⟩
          case round =>
            clear HI
            obtain ⟨c, hc1, hcN, rfl, HI⟩ := hrel
            by_cases hlt : c ≤ N
            · have t2 : (c : Int) ≤ (N : Int) := by omega
              obtain ⟨f1, f2, f3, _⟩ := HD.out c hc1 hlt
              have HHE := hid (HI.out.heard HSM.out (c : Int))
              rw [f2, f3] at HHE
              obtain ⟨ao, cap, hv, hc, hrw⟩ := HI.out.row (i := c) (by have := HVL.out; omega)
              rw [f1, byL_length] at hc hrw
              have HC := hid hc
              have HRW := hid hrw
              have hQ := HI.out.lt.1
              clear f1 f2 f3 hv hc hrw
              go_wp2_with fail
              refine HHE.out.mono ?_
              rintro e wb ⟨u, rfl, h0, h1, h2⟩
              obtain ⟨au, cu, hu, _, _⟩ := h0.shape
              rw [byL_length] at hu
              subst hu
              have HB := hid h1
              have HF0 := hid h2
              have HU := hid h0
              clear h0 h1 h2 HHE HI
              have tc0 : (0 : Int) ≤ (c : Int) := by omega
              have tcN : (c : Int) < (N : Int) + 1 := by omega
              have hwr : IntKind.i64.wrap ((c : Int) + 100) = (c : Int) + 100 := wrap_fit (by unfold fits; omega)
              have HCL : Hid (∀ W', Fr wb W' (fun _ => False) → W'.cell? ⟨Q, c, none⟩ = some (.slice ao lg cap) ∧ (convert 33 9 (.slice ao lg cap)).run Try.prog W' = .ok (.string (str8 (byL c lg))) W' ∧ (convert 33 9 (.slice au lg cu)).run Try.prog W' = .ok (.string (str8 (byL (c + 100) lg))) W' ∧ Q < W'.heap.size) := fun W' hf => by
                have hf1 := HF0.out.trans hf
                refine ⟨?_, run_str8 Try.underlying33 Try.underlying5 Try.underlying9 (rw_bs (HRW.out.fr hf1 (fun _ _ h => h)) (byL_length _ _)).1, run_str8 Try.underlying33 Try.underlying5 Try.underlying9 (rw_bs (HU.out.fr hf (fun _ _ h => h)) (byL_length _ _)).1, Nat.lt_of_lt_of_le hQ hf1.size⟩
                rw [World.cell?_of_block (w := wr) (hf1.block Q hQ (fun h => h))]
                exact HC.out
              have HBY : Hid (∀ (W : World) (ci : Int), 0 ≤ ci → ci ≤ 200 → Fr wb W (fun _ => False) → Calls Try.prog 21 #[.int .i64 ci, .int .i64 (lg : Int)] W fun e w' => ∃ ao cap, e = .returned (.slice ao lg cap) ∧ Fr W w' (fun _ => False) ∧ (convert 33 9 (.slice ao lg cap)).run Try.prog w' = .ok (.string (str8 (byL ci.toNat lg))) w') := fun W ci h0 h2 hf => by
                refine (bytes_i (w := w) W ci ci.toNat lg (by omega) (by omega) (by omega) (HB.out.fr.trans hf)).mono ?_
                rintro e w' ⟨ao, cap, rfl, h3, h4⟩
                exact ⟨ao, cap, rfl, h4, run_str8 Try.underlying33 Try.underlying5 Try.underlying9 (rw_bs h3 (byL_length _ _)).1⟩
              have HF2 : Hid (Fr wb wb (fun _ => False)) := Fr.refl _ _
              have htn : ((c : Int) + 100).toNat = c + 100 := by omega
              have HTN := hid htn
              clear HC HRW HU HF0 htn hQ
              go_wp2_with fail
              go_region_held (fun W' => W'.cell? ⟨Q, c, none⟩ = some (.slice ao lg cap) ∧ (convert 33 9 (.slice ao lg cap)).run Try.prog W' = .ok (.string (str8 (byL c lg))) W' ∧ (convert 33 9 (.slice au lg cu)).run Try.prog W' = .ok (.string (str8 (byL (c + 100) lg))) W' ∧ Q < W'.heap.size)
                ((refine HCL.out _ ?_; first | exact HF3.out | exact HF3.out.drewN _ | exact HF2.out | exact HF2.out.drewN _))
                ((go_at_call 21; refine (HBY.out _ _ (by omega) (by omega) (by first | exact HF3.out | exact HF3.out.drewN _ | exact HF2.out | exact HF2.out.drewN _)).mono ?_; rintro e wc ⟨ao4, cap4, rfl, hf4, hcv⟩; (first | rw [Int.toNat_natCast] at hcv | rw [HTN.out] at hcv); have HF3 := hid (Fr.trans (by first | exact HF3.out | exact HF3.out.drewN _ | exact HF2.out | exact HF2.out.drewN _) hf4); clear hf4))
              all_goals
                have HB2 := hid (HB.out.still HF3.out)
                go_wp2
                exact ⟨⟨c + 1, by omega, by omega, by go_num, HB2⟩, by simp [intOf]; omega⟩
            · have t2 : ¬ (c : Int) ≤ (N : Int) := by omega
              have HMV := hid HI.out.ni.moved
              have HNI := hid HI.out.ni
              clear HI HD
              go_wp2_with fail
              refine HMV.out.mono ?_
              rintro e wb ⟨rfl, _, h9⟩
              obtain rfl : wr = wb := h9.symm
              clear h9 HMV
              rw [HMM.out]
              go_wp2_with fail
              go_loopw [22] (fun s22 wx => ∃ (c : Nat) (s : Np), 1 ≤ c ∧ c ≤ N + 1 ∧ s22 = .int .i64 (c : Int) ∧ Hid (NI w wx A s) ∧ Hid (ML s c N m)) (fun s22 _ => N + 1 - (intOf s22).toNat)
              case atStart => exact ⟨1, s, Nat.le_refl _, by omega, rfl, HNI, HML⟩
              case round =>
                clear HNI HML
                obtain ⟨c, s, hc1, hcN, rfl, HI, HL⟩ := hrel
                by_cases hlt : c ≤ N
                · have t3 : (c : Int) ≤ (N : Int) := by omega
                  obtain ⟨f1, f2, f3, f4, f5, f6, f7, f8⟩ := HL.out.step hc1 hlt
                  have HCS := hid (HI.out.close (c : Int))
                  rw [f1] at HCS
                  by_cases hev : (c : Int) % 2 = 0
                  · have HCU := hid (fun W (h : NI w W A (closeS s c)) => h.cut (c : Int))
                    rw [f5] at HCU
                    have HOP := hid (fun W (h : NI w W A (cutS (closeS s c) c)) => h.open (c : Int))
                    rw [f6, f7] at HOP
                    have HL2 := hid f8
                    clear f1 f2 f3 f4 f5 f6 f7 f8 HL
                    generalize cutS (closeS s c) c = s2 at *
                    generalize closeS s c = s1 at *
                    go_wp2_with fail
                    refine HCS.out.mono ?_
                    rintro e wc ⟨rfl, h1⟩
                    have HA := hid h1
                    clear h1 HCS HI
                    go_wp2_with fail
                    refine (HCU.out _ HA.out).mono ?_
                    rintro e wd ⟨rfl, h1⟩
                    have HB := hid h1
                    clear h1 HCU HA
                    go_wp2_with fail
                    refine (HOP.out _ HB.out).mono ?_
                    rintro e we ⟨rfl, h1⟩
                    have HC := hid h1
                    clear h1 HOP HB
                    go_wp2
                    exact ⟨⟨c + 1, s2, by omega, by omega, by go_num, HC, HL2⟩, by simp [intOf]; omega⟩
                  · have HOP := hid (fun W (h : NI w W A (closeS s c)) => h.open (c : Int))
                    rw [f2, f3] at HOP
                    have HL2 := hid f4
                    clear f1 f2 f3 f4 f5 f6 f7 f8 HL
                    generalize closeS s c = s1 at *
                    go_wp2_with fail
                    refine HCS.out.mono ?_
                    rintro e wc ⟨rfl, h1⟩
                    have HA := hid h1
                    clear h1 HCS HI
                    go_wp2_with fail
                    refine (HOP.out _ HA.out).mono ?_
                    rintro e we ⟨rfl, h1⟩
                    have HC := hid h1
                    clear h1 HOP HA
                    go_wp2
                    exact ⟨⟨c + 1, s1, by omega, by omega, by go_num, HC, HL2⟩, by simp [intOf]; omega⟩
                · have t3 : ¬ (c : Int) ≤ (N : Int) := by omega
                  have HMV := hid HI.out.moved
                  rw [HL.out.m] at HMV
                  have HFR := hid HI.out.fr
                  have HOP := hid (HI.out.open 65)
                  rw [show openE s 65 = 1 from rfl] at HOP
                  have hm2 : (2 : Int) * (N : Int) * (lg : Int) = (m : Int) := by
                    rw [HME.out, Int.natCast_mul, Int.natCast_add, ← Int.two_mul, Int.mul_comm 2 (N : Int), Int.mul_assoc]
                  have HM2 := hid hm2
                  clear HL HME
                  obtain ⟨X2, hX2⟩ : ∃ X, (2 : Int) * (N : Int) = X := ⟨_, rfl⟩
                  rw [hX2] at hm2
                  have hw : wrap64 (X2 * (lg : Int)) = (m : Int) := by
                    rw [hm2]
                    unfold wrap64
                    omega
                  clear hm2
                  by_cases h64 : N < 64
                  · have t4 : (N : Int) < 64 := by omega
                    go_wp2_with fail
                    refine HMV.out.mono ?_
                    rintro e wc ⟨rfl, h0, h9⟩
                    obtain rfl : wr = wc := h9.symm
                    clear h9 h0 HMV
                    go_wp2_with fail
                    refine (head_any _).mono ?_
                    rintro e wz ⟨rfl, h1⟩
                    have HZ := hid (HFR.out.trans h1)
                    clear h1
                    go_wp2_with fail
                    go_ret
                    exact ⟨rfl, HZ.out⟩
                  · have t4 : ¬ (N : Int) < 64 := by omega
                    go_wp2_with fail
                    refine HMV.out.mono ?_
                    rintro e wc ⟨rfl, h0, h9⟩
                    obtain rfl : wr = wc := h9.symm
                    clear h9 h0 HMV
                    go_wp2_with fail
                    refine HOP.out.mono ?_
                    rintro e wd ⟨rfl, h1⟩
                    have HFR2 := hid h1.fr
                    clear h1 HOP
                    go_wp2_with fail
                    refine (head_any _).mono ?_
                    rintro e wz ⟨rfl, h1⟩
                    have HZ := hid (HFR2.out.trans h1)
                    clear h1
                    go_wp2_with fail
                    go_ret
                    exact ⟨rfl, HZ.out⟩
end Go.Proofs.Ytljkbnjdciljfaa
