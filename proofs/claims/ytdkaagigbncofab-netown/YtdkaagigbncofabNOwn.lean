/- NetOwn: the walk. -/
import Derived.Test.YtdkaagigbncofabNOwnP
import Derived.Deep.LoopGhost
import Derived.Deep.DeepMust
namespace Go.Proofs.Ytdkaagigbncofab
open Go.RowKit

theorem Row8.keep {w w' : World} {g : Nat} {xs : List Nat} (h : Row8 w g xs) (he : w'.heap[g]? = w.heap[g]?) : Row8 w' g xs := by unfold Row8; rw [he]; exact h
theorem BsC.lo {w W : World} {v : Value} {xs : List Nat} (h : BsC w v xs) (hf : Fr w W (fun _ => False)) : BsC W v xs := h.fr hf (fun _ h => h.elim)
/-- A row of one's own, as a block, if it is not empty. -/
def WrB (w : World) (ao : Option Addr) (n : Nat) (b off : Nat) : Prop := 0 < n → ao = some ⟨b, off, none⟩ ∧ Bk w b (off + n)
theorem wr_of {w : World} {lo : Nat} {ao : Option Addr} {n cap : Nat} {xs : List Nat} (h : Rw w lo 5 (.slice ao n cap) xs) : ∃ b off, WrB w ao xs.length b off := by
  by_cases hx : xs = []
  · exact ⟨0, 0, fun h => by subst hx; simp at h⟩
  · obtain ⟨b, off, cap', e, h1⟩ := h.bk hx
    simp only [Value.slice.injEq] at e
    exact ⟨b, off, fun _ => ⟨e.1, h1⟩⟩
theorem WrB.set {w : World} {ao : Option Addr} {n b off : Nat} (h : WrB w ao n b off) (d j : Nat) (u : Value) : WrB (w.setCell ⟨d, j, none⟩ u) ao n b off := fun hn => ⟨(h hn).1, (h hn).2.set d j u⟩
/-- A byte is written over. -/
theorem N3.poke {w W : World} {A B : Nat} {s t : Np} {va : Value} {all : List Nat} {S : Nat → Prop} (h : N3 w W A B s t va all S) {b : Nat} (hb : S b) (j : Nat) (u : Value) : N3 w (W.setCell ⟨b, j, none⟩ u) A B s t va all S := h.step (Fr.setCell (S := S) (Fr.refl W S) (fun _ => hb) u)
set_option maxHeartbeats 16000000 in
set_option maxRecDepth 100000 in
theorem own_walk {w : World} {v0 : Value} {L : List (List Nat)} (hL : Bss w v0 L) : Calls Try.prog 4 #[v0] w fun e w' => e = .returned (.bool true) ∧ Fr w w' (fun _ => False) := by
  obtain ⟨i0, hi, hz0, hz1, hz2⟩ := info_parts Try.info5
  have HL := hid hL
  obtain ⟨aL, cL, rfl, hLl, _⟩ := hL
  have HN1 := hid (nnew_o (w := w) w (a := 1000) (b := 1000) (by omega) (by omega) (Nat.le_refl _))
  have HN2 := hid (fun (W : World) (hf : Fr w W (fun _ => False)) => nnew_o (w := w) W (a := 5) (b := 5) (by omega) (by omega) hf.size)
  have HO1 := hid (fun (W : World) A B va all S (h : N3 w W A B (np0 1000 1000) (np0 5 5) va all S) => h.open)
  have HO2 := hid (fun (W : World) A B va all S (h : N3 w W A B (openS (np0 1000 1000) 1) (np0 5 5) va all S) => h.swap.open)
  rw [os_new.1] at HO1
  rw [ot_new.1] at HO2
  have HOS := hid os_new.2
  have HT := hid ot_new.2
  generalize openS (np0 1000 1000) 1 = s0 at *
  generalize openS (np0 5 5) 1 = t0 at *
  go_enter Try.func4, Try.ntmps4
  go_wp2_with fail
  refine HN1.out.mono ?_
  rintro e w1 ⟨A, rfl, O, h1, _, h2⟩
  have H1 := hid (And.intro h1 h2)
  clear h1 h2
  go_wp2_with fail
  refine (HN2.out _ H1.out.2).mono ?_
  rintro e w2 ⟨B, rfl, Q, h1, h2, h3⟩
  have H2 := hid (N3.start H1.out.1 H1.out.2 h1 h2 h3)
  clear h1 h2 h3 H1 HN1 HN2
  go_wp2_with fail
  refine (HO1.out _ _ _ _ _ _ H2.out).mono ?_
  rintro e w3 ⟨rfl, h1⟩
  have H3 := hid h1
  clear h1 H2
  go_wp2_with fail
  refine (HO2.out _ _ _ _ _ _ H3.out).mono ?_
  rintro e w4 ⟨rfl, h1⟩
  have H4 := hid h1.swap
  clear h1 H3 HO1 HO2
  go_wp2_with fail
  obtain ⟨NN, hNN⟩ : ∃ NN : Nat, NN = min L.length 15 := ⟨_, rfl⟩
  have HNN := hid hNN
  clear hNN
  go_loopg [7, 8] NN (fun q s7 s8 wx => ∃ (i : Nat) (s : Np) (all : List Nat) (aa : Option Addr) (ca : Nat), s8 = .int .i64 (i : Int) ∧ s7 = .slice aa all.length ca ∧ Hid (i + q = NN) ∧ Hid (all.length ≤ i * 50) ∧ Hid (OS s all (i * 100)) ∧ Hid (N3 w wx A B s t0 (.slice aa all.length ca) all (fun _ => False)))
  case atStart => exact ⟨0, s0, [], none, 0, rfl, rfl, by show _ = _; omega, by show _ ≤ _; simp, by rw [Nat.zero_mul]; exact HOS, H4⟩
  case round =>
    obtain ⟨i, s, all, aa, ca, rfl, rfl, HG, HAL, HS, HI⟩ := hrel
    clear H4 HOS
    cases gk with
    | zero =>
      have hi9 : i = min L.length 15 := by have := HG.out; have := HNN.out; omega
      have HF := hid HI.out.fr
      by_cases hl : L.length ≤ 15
      · have t1 : ¬ (i : Int) < (L.length : Int) := by omega
        clear hi9
        go_wp2_with fail
        refine (head_any _).mono ?_
        rintro e wz ⟨rfl, h1⟩
        have HZ := hid (HF.out.trans h1)
        clear h1
        go_wp2_with fail
        go_ret
        exact ⟨rfl, HZ.out⟩
      · have t1 : (i : Int) < (L.length : Int) := by omega
        have t2 : ¬ (i : Int) < 15 := by omega
        clear hi9
        go_wp2_with fail
        refine (head_any _).mono ?_
        rintro e wz ⟨rfl, h1⟩
        have HZ := hid (HF.out.trans h1)
        clear h1
        go_wp2_with fail
        go_ret
        exact ⟨rfl, HZ.out⟩
    | succ q =>
      have hi9 : i < L.length ∧ i < 15 := by have := HG.out; have := HNN.out; omega
      have t1 : (i : Int) < (L.length : Int) := by omega
      have t2 : (i : Int) < 15 := by omega
      have tnn : (0 : Int) ≤ (i : Int) := by omega
      have hi15 : i < 15 := hi9.2
      obtain ⟨bL, oL, cz, az, rfl, gx, glt, gz⟩ := HL.out.at hi9.1
      have HZB := hid gz
      obtain ⟨z, hz⟩ : ∃ z, L.getD i [] = z := ⟨_, rfl⟩
      rw [hz] at gx HZB
      have HCL : Hid (∀ W, Fr w W (fun _ => False) → W.cell? ⟨bL, oL + i, none⟩ = some (.slice az z.length cz) ∧ bL < W.heap.size) := fun W hf => ⟨((fr_rules hf).1 bL _ glt).trans gx, Nat.lt_of_lt_of_le glt hf.size⟩
      clear gx glt gz hz hi9
      obtain ⟨hx, hxl⟩ := HCL.out _ HI.out.fr
      by_cases hz50 : z.length ≤ 50
      · have t3 : ¬ (50 : Int) < (z.length : Int) := by omega
        obtain ⟨_, _, _, gc, gl, gb, _⟩ := HZB.out
        have hzb2 : z.length ≤ 140737488355328 := gl
        clear gc gl gb
        have HLE := hid (fun W (hf : Fr w W (fun _ => False)) => (lend_any (.slice az z.length cz) z W (by obtain ⟨_, _, _, _, _, h, _⟩ := HZB.out.lo hf; exact h) hzb2))
        obtain ⟨om1, om2, om3, om4⟩ := os_round HS.out hz50
        have HOM := hid (And.intro om1 (And.intro om2 om3))
        have HOS2 := hid om4
        have hsb : i * 100 ≤ 1500 := by omega
        clear om1 om2 om3 om4
        go_wp2_with fail
        refine (HLE.out _ HI.out.fr).mono ?_
        rintro e w5 ⟨rfl, h1, h2⟩
        have HR5 := hid h1
        have H5 : Hid (N3 w w5 A B s t0 (.slice aa all.length ca) all (fun k => k = wr.heap.size)) := HI.out.but (h2.mono (fun _ _ h => h.elim)) (fun k hk => ⟨Or.inr (by rw [hk]; exact Nat.le_refl _), by rw [hk]; exact h1.lt⟩)
        clear h1 h2 HLE
        generalize wr.heap.size = G at *
        have HSE := hid (H5.out.send (zs := z) rfl (HR5.out.bs (cap := z.length + 9)) (by omega))
        generalize hs1 : sendS s 1 z = s1 at HSE HOM HOS2
        clear hs1
        go_wp2_with fail
        refine HSE.out.mono ?_
        rintro e w6 ⟨rfl, h1, h2⟩
        have H6 := hid h1
        have HR6 := hid (HR5.out.keep (h2 _ rfl))
        clear h1 h2 HSE H5 HR5
        have HWR := hid (H6.out.write (zs := z) rfl (HR6.out.bs (cap := z.length + 9)) (by omega))
        generalize hs1 : writeS s1 1 z = s2 at HWR HOM HOS2
        clear hs1
        go_wp2_with fail
        refine HWR.out.mono ?_
        rintro e w7 ⟨rfl, h1, h2⟩
        have H7 := hid h1
        have HR7 := hid (HR6.out.keep (h2 _ rfl))
        clear h1 h2 HWR H6 HR6
        clear hx hxl
        obtain ⟨hx, hxl⟩ := HCL.out _ (H7.out.fr)
        have HBK := hid (back_any G (.slice az z.length cz) z w7 HR7.out (by obtain ⟨_, _, _, _, _, h, _⟩ := HZB.out.lo H7.out.fr; exact h) hzb2)
        go_wp2_with fail
        refine HBK.out.mono ?_
        rintro e w8 ⟨rfl, h1⟩
        have H8 := hid (H7.out.step h1)
        clear h1 H7 HR7 HBK
        have HBR := hid (H8.out.bring (Nat.le_trans HOM.out.2.1 (by omega)) 1000)
        generalize hs1 : bringS s2 1 1000 = s3 at HBR HOM HOS2
        clear hs1
        go_wp2_with fail
        refine HBR.out.mono ?_
        rintro e w9 ⟨rfl, h1, _⟩
        have H9 := hid h1
        clear h1 HBR H8
        have HFE := hid (H9.out.fetch (Nat.le_trans HOM.out.1 (by omega)) 1000)
        generalize hs1 : fetchS s3 1 1000 = s4 at HFE HOM HOS2
        clear hs1
        go_wp2_with fail
        refine HFE.out.mono ?_
        rintro e w10 ⟨rfl, h1, _⟩
        have H10 := hid h1
        clear h1 HFE H9
        have HTK := hid H10.out.take
        rw [HOM.out.2.2] at HTK
        generalize hs1 : takeS s4 1 = s5 at HTK HOS2
        clear hs1
        go_wp2_with fail
        refine HTK.out.mono ?_
        rintro e w11 ⟨v, rfl, h1, h2⟩
        obtain ⟨av, cv, hv, _, _⟩ := h1.shape
        subst hv
        have HV := hid h1
        have H11 := hid h2
        clear h1 h2 HTK H10 HOM HS
        clear hx hxl
        obtain ⟨hx, hxl⟩ := HCL.out _ (H11.out.fr)
        have HZ1 := hid (fun n => run_str8 Try.underlying22 Try.underlying5 Try.underlying9 (bs_all (HV.out.fr ((Fr.refl w11 (fun _ => False)).drewN n) (fun _ _ h => h))))
        have hc1 := HZ1.out
        have hc10 := run_str8 Try.underlying22 Try.underlying5 Try.underlying9 (bs_all HV.out)
        have hc2 := fun n => run_str8 Try.underlying22 Try.underlying5 Try.underlying9 (by obtain ⟨_, _, _, _, _, h, _⟩ := HZB.out.lo (H11.out.fr.drewN n); exact h : Bs (w11.drewN n) (.slice az z.length cz) z)
        have hc20 := run_str8 Try.underlying22 Try.underlying5 Try.underlying9 (by obtain ⟨_, _, _, _, _, h, _⟩ := HZB.out.lo H11.out.fr; exact h : Bs w11 (.slice az z.length cz) z)
        generalize str8 z = SZ at *
        go_wp2_with fail
        go_quiet (fail)
        clear hc1 hc10 hc2 hc20 HZ1
        have H12 := hid (H11.out.still ((Fr.refl w11 (fun _ => False)).drewN nq))
        have HV12 := hid (HV.out.fr ((Fr.refl w11 (fun _ => False)).drewN nq) (fun _ _ h => h))
        generalize w11.drewN nq = w12 at *
        clear H11 HV
        clear hx hxl
        obtain ⟨hx, hxl⟩ := HCL.out _ (H12.out.fr)
        have hal := HAL.out
        go_wp2_with (at_builtin; refine wpl_rw _ rfl (.tmp 105) (.tmp 109) 22 rfl w.heap.size 5 i0 Try.underlying22 hi hz0 hz1 hz2 _ all (by rfl) H12.out.row _ z (by rfl) (by obtain ⟨_, _, _, _, _, h, _⟩ := HZB.out.lo H12.out.fr; exact h) (by omega) H12.out.fr.size (all.length + z.length) rfl ?_)
        intro aa2 ca2 w13 h31 h32 h33
        have H13 := hid (H12.out.grow h31.out h32.out h33.out)
        have HV13 := hid (HV12.out.fr h32.out (fun k hk hv => by
          obtain ⟨_, _, _, _, _, _, _, h6, _⟩ := H12.out
          exact (h6 k hv).2.2 hk))
        clear h31 h32 h33 H12 HV12
        obtain ⟨all2, hall2⟩ : ∃ l, all ++ z = l := ⟨_, rfl⟩
        rw [hall2] at H13 HOS2
        have hlen2 : all.length + z.length = all2.length := by rw [← hall2, List.length_append]
        rw [hlen2] at H13 ⊢
        have HAL2 : Hid (all2.length ≤ (i + 1) * 50) := by show _ ≤ _; omega
        have hal2 : all2.length ≤ 750 := by omega
        clear hall2 hlen2 HAL hal
        obtain ⟨bb, ob, hwv⟩ := wr_of HV13.out
        have HWV := hid hwv
        clear hwv HV13
        clear hx hxl
        go_wp2_with fail
        go_loopg [12] z.length (fun p s12 wx => ∃ k : Nat, s12 = .int .i64 (k : Int) ∧ Hid (k + p = z.length) ∧ Hid (N3 w wx A B s5 t0 (.slice aa2 all2.length ca2) all2 (fun k => (Value.slice av z.length cv).ownBlock = some k)) ∧ Hid (WrB wx av z.length bb ob))
        case atStart => exact ⟨0, rfl, by show _ = _; omega, H13, HWV⟩
        case round =>
          obtain ⟨k, rfl, HK, H14, HW14⟩ := hrel
          clear H13 HWV
          cases gk with
          | succ p =>
            have hk : k < z.length := by have := HK.out; omega
            have t5 : (k : Int) < (z.length : Int) := by omega
            have t6 : (0 : Int) ≤ (k : Int) := by omega
            obtain ⟨rfl, hbk⟩ := HW14.out (by omega)
            obtain ⟨⟨u, d0⟩, d1, d2⟩ := hbk.at (ob + k) (by omega)
            have HN := hid (H14.out.poke (b := bb) rfl (ob + k) (.int .u8 1))
            have HNW := hid (HW14.out.set bb (ob + k) (.int .u8 1))
            clear hbk H14 HW14
            go_wp2_with fail
            go_roundg p
            case measure => omega
            case rel => exact ⟨k + 1, by go_num, by have := HK.out; show _ = _; omega, HN, HNW⟩
          | zero =>
            have t5 : ¬ (k : Int) < (z.length : Int) := by have := HK.out; omega
            obtain ⟨oh1, oh2⟩ := os_heard HOS2.out
            have HH := hid (H14.out.heard (Nat.le_trans oh2 (by omega)))
            have HSM : Hid (s5.m ≤ 70368744177664) := Nat.le_trans oh2 (by omega)
            rw [oh1] at HH
            have HHB := hid oh1
            clear oh1 oh2 HW14 HK
            go_wp2_with fail
            refine HH.out.mono ?_
            rintro e w15 ⟨u, rfl, h1, h2, _⟩
            obtain ⟨au, cu, hu, _, _⟩ := h1.shape
            subst hu
            have HU := hid h1
            have H15 := hid h2
            clear h1 h2 HH H14
            have HLI : Hid (Fr w15 (w15.alloc (.cells #[.int .u8 1, .int .u8 2, .int .u8 3] 5)) (fun _ => False)) := alloc_fr _ _ _
            have HLB := hid (lit_bs w15 [1, 2, 3] #[.int .u8 1, .int .u8 2, .int .u8 3] 3 rfl rfl (by omega))
            have HUA := hid (HU.out.fr HLI.out (fun _ _ h => h))
            have H15A := hid (H15.out.still HLI.out)
            go_wp2_with (at_builtin; refine wpl_rw2 _ rfl (.tmp 125) (.tmp 126) 22 rfl w.heap.size 5 i0 Try.underlying22 hi hz0 hz1 hz2 _ all2 (by rfl) HUA.out _ [1, 2, 3] (by rfl) HLB.out (by simp; omega) H15A.out.fr.size (all2.length + 3) rfl (by simp) ?_)
            intro ag cg w16 h31 h32 h33 h34
            have h41 := h31.out
            obtain ⟨bu, ou, hwu⟩ := wr_of HUA.out
            have hwu2 : WrB w16 au all2.length bu ou := fun hn => by
              obtain ⟨e1, cs, e2, e3⟩ := hwu hn
              obtain ⟨cs', e4, e5⟩ := h34.out _ _ e2
              exact ⟨e1, cs', e4, by omega⟩
            have HWU := hid hwu2
            obtain ⟨bg, og, cg', e8, hbg⟩ := h41.bk (by simp)
            simp only [Value.slice.injEq] at e8
            obtain ⟨rfl, _, rfl⟩ := e8
            have HBG : Hid (Bk w16 bg (og + (all2.length + 3))) := by
              rw [List.length_append] at hbg
              exact hbg
            have H16 : Hid (N3 w w16 A B s5 t0 (.slice aa2 all2.length ca2) all2 (fun k => (Value.slice au all2.length cu).ownBlock = some k ∨ k = bg)) := H15A.out.but (h32.out) (fun k hk => by
              rcases hk with hk | hk
              · exact ⟨Or.inl hk, Nat.lt_of_lt_of_le (HUA.out.lt hk).2 h32.out.size⟩
              · subst hk
                refine ⟨?_, (h41.lt rfl).2⟩
                rcases h33.out k rfl with h | h
                · exact Or.inl h
                · exact Or.inr h)
            clear h31 h32 h33 h34 h41 hwu hwu2 hbg HUA HU H15 H15A HLI HLB
            obtain ⟨ng, hng⟩ : ∃ ng, all2.length + 3 = ng := ⟨_, rfl⟩
            have hng2 : ng ≤ 753 := by omega
            have eng : (all2.length : Int) + 3 = (ng : Int) := by omega
            rw [hng] at HBG ⊢
            clear hng
            go_wp2_with fail
            generalize wr = wp1 at *
            go_loopg [16] ng (fun p s16 wx => ∃ k : Nat, s16 = .int .i64 (k : Int) ∧ Hid (k + p = ng) ∧ Hid (N3 w wx A B s5 t0 (.slice aa2 all2.length ca2) all2 (fun k => (Value.slice au all2.length cu).ownBlock = some k ∨ k = bg)) ∧ Hid (WrB wx au all2.length bu ou) ∧ Hid (Bk wx bg (og + ng)))
            case atStart => exact ⟨0, rfl, by show _ = _; omega, H16, HWU, HBG⟩
            case round =>
              obtain ⟨k2, rfl, HK, H17, HW17, HB17⟩ := hrel
              clear H16 HWU HBG
              cases gk with
              | succ p =>
                have hk : k2 < ng := by have := HK.out; omega
                have t7 : (k2 : Int) < (ng : Int) := by omega
                have t8 : (0 : Int) ≤ (k2 : Int) := by omega
                obtain ⟨⟨u9, d0⟩, d1, d2⟩ := HB17.out.at (og + k2) (by omega)
                have HN := hid (H17.out.poke (b := bg) (Or.inr rfl) (og + k2) (.int .u8 2))
                have HNW := hid (HW17.out.set bg (og + k2) (.int .u8 2))
                have HNB := hid (HB17.out.set bg (og + k2) (.int .u8 2))
                clear H17 HW17 HB17
                go_wp2_with fail
                go_roundg p
                case measure => omega
                case rel => exact ⟨k2 + 1, by go_num, by have := HK.out; show _ = _; omega, HN, HNW, HNB⟩
              | zero =>
                have t7 : ¬ (k2 : Int) < (ng : Int) := by have := HK.out; omega
                clear HK HB17
                go_wp2_with fail
                generalize wr = wp2 at *
                go_loopg [17] all2.length (fun p s17 wx => ∃ k : Nat, s17 = .int .i64 (k : Int) ∧ Hid (k + p = all2.length) ∧ Hid (N3 w wx A B s5 t0 (.slice aa2 all2.length ca2) all2 (fun k => (Value.slice au all2.length cu).ownBlock = some k ∨ k = bg)) ∧ Hid (WrB wx au all2.length bu ou))
                case atStart => exact ⟨0, rfl, by show _ = _; omega, H17, HW17⟩
                case round =>
                  obtain ⟨k3, rfl, HK, H18, HW18⟩ := hrel
                  clear H17 HW17
                  cases gk with
                  | succ p =>
                    have hk : k3 < all2.length := by have := HK.out; omega
                    have t9 : (k3 : Int) < (all2.length : Int) := by omega
                    have t10 : (0 : Int) ≤ (k3 : Int) := by omega
                    obtain ⟨rfl, hbk⟩ := HW18.out (by omega)
                    obtain ⟨⟨u9, d0⟩, d1, d2⟩ := hbk.at (ou + k3) (by omega)
                    have HN := hid (H18.out.poke (b := bu) (Or.inl rfl) (ou + k3) (.int .u8 3))
                    have HNW := hid (HW18.out.set bu (ou + k3) (.int .u8 3))
                    clear hbk H18 HW18
                    go_wp2_with fail
                    go_roundg p
                    case measure => omega
                    case rel => exact ⟨k3 + 1, by go_num, by have := HK.out; show _ = _; omega, HN, HNW⟩
                  | zero =>
                    have t9 : ¬ (k3 : Int) < (all2.length : Int) := by have := HK.out; omega
                    have HH := hid (H18.out.heard HSM.out)
                    rw [HHB.out] at HH
                    have HTM : Hid (t0.m ≤ 70368744177664) := by rw [HT.out.2]; show _ ≤ _; omega
                    have HH2 := hid (fun W S (h : N3 w W A B s5 t0 (.slice aa2 all2.length ca2) all2 S) => h.heard2 HTM.out)
                    rw [HT.out.1] at HH2
                    have HMV := hid (fun W S (h : N3 w W A B s5 t0 (.slice aa2 all2.length ca2) all2 S) => h.moved2)
                    rw [HT.out.2] at HMV
                    clear HK HW18
                    go_wp2_with fail
                    refine HH.out.mono ?_
                    rintro e w19 ⟨x, rfl, h1, h2, _⟩
                    obtain ⟨ax, cx, hxx, _, _⟩ := h1.shape
                    subst hxx
                    have HX := hid h1
                    have H19 := hid h2
                    clear h1 h2 HH H18
                    go_wp2_with fail
                    refine (HH2.out _ _ H19.out).mono ?_
                    rintro e w20 ⟨y, rfl, h1, h2, h3⟩
                    obtain ⟨ay, cy, hyy, _, _⟩ := h1.shape
                    rw [List.length_nil] at hyy
                    subst hyy
                    have HX2 := hid (HX.out.fr h3 (fun _ _ h => h))
                    have H20 := hid h2
                    clear h1 h2 h3 HX H19 HH2
                    have hc1 := run_str8 Try.underlying22 Try.underlying5 Try.underlying9 (bs_all HX2.out)
                    have hc2 := run_str8 Try.underlying22 Try.underlying5 Try.underlying9 (bs_all H20.out.row)
                    generalize str8 all2 = SA at *
                    go_wp2_with fail
                    refine (HMV.out _ _ H20.out).mono ?_
                    rintro e w21 ⟨rfl, h9⟩
                    obtain rfl : w20 = w21 := h9.symm
                    clear h9
                    have HE : Hid (N3 w w20 A B s5 t0 (.slice aa2 all2.length ca2) all2 (fun _ => False)) := H20.out.but ((Fr.refl _ _)) (fun k hk => hk.elim)
                    clear hc1 hc2
                    go_wp2_with fail
                    go_roundg q
                    case measure => omega
                    case rel => exact ⟨i + 1, s5, all2, aa2, ca2, by go_num, rfl, by have := HG.out; show _ = _; omega, HAL2, by rw [Nat.succ_mul]; exact HOS2, HE⟩
      · have t3 : (50 : Int) < (z.length : Int) := by omega
        clear hz50
        go_wp2_with fail
        go_roundg q
        case measure => omega
        case rel => exact ⟨i + 1, s, all, aa, ca, by go_num, rfl, by have := HG.out; show _ = _; omega, by have := HAL.out; show _ ≤ _; omega, by obtain ⟨x, m, h1, h2, h3⟩ := HS.out; exact ⟨x, m, h1, by omega, h3⟩, HI⟩
end Go.Proofs.Ytdkaagigbncofab
