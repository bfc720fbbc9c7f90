/- OperOpen: the walk. (Written by wip/gen/genvopen.py.) -/
import Derived.Test.YtglkjhpkeelajaaVOpenP
namespace Go.Proofs.Ytglkjhpkeelajaa.V
open Go.RowKit Go.Maps
open M (Cl cmpC vC)

/-- A cell of a list that can be read, in every later world. -/
theorem Ks.use {w : World} {g o n cap : Nat} {L : List Cl} (h : Ks w (.slice (some ⟨g, o, none⟩) n cap) L) {i : Nat} (hi : i < L.length) {W : World} (hf : Fr w W (fun _ => False)) : W.cell? ⟨g, o + i * 3, none⟩ = some (.int .i64 (L[i]?.getD default).v) ∧ W.cell? ⟨g, o + i * 3 + 1, none⟩ = some (.string (L[i]?.getD default).k) ∧ W.cell? ⟨g, o + i * 3 + 2, none⟩ = some (.int .i64 (L[i]?.getD default).s) ∧ g < W.heap.size := by
  obtain ⟨g', o', e, h0, h1, h2⟩ := (h.step hf).at hi
  simp only [Option.some.injEq, Addr.mk.injEq, and_true] at e
  obtain ⟨rfl, rfl⟩ := e
  exact ⟨h0, h1, h2, World.block_lt_of_cell? W _ h0⟩
/-- A view that can be read, in every later world. -/
theorem vs_use {w : World} {ao : Option Addr} {n cap : Nat} {vs : List Vw} (h : Vs w (.slice ao n cap) vs) {i : Nat} (hi : i < vs.length) : ∃ b off, ao = some ⟨b, off, none⟩ ∧ ∀ W : World, Fr w W (fun _ => False) → W.cell? ⟨b, off + i * 3, none⟩ = some (.int .i64 (vs.getD i vw0).s) ∧ W.cell? ⟨b, off + i * 3 + 1, none⟩ = some (.int .i64 (vs.getD i vw0).d) ∧ W.cell? ⟨b, off + i * 3 + 2, none⟩ = some (.int .i64 (vs.getD i vw0).l) ∧ b < W.heap.size := by
  obtain ⟨b, off, e, _⟩ := h.at hi
  refine ⟨b, off, e, fun W hW => ?_⟩
  obtain ⟨b', off', e', h0, h1, h2⟩ := (h.fr hW (fun _ _ _ _ _ h => h)).at hi
  rw [e] at e'
  simp only [Option.some.injEq, Addr.mk.injEq, and_true] at e'
  obtain ⟨rfl, rfl⟩ := e'
  exact ⟨h0, h1, h2, World.block_lt_of_cell? W _ h0⟩
theorem mem_getD {L : List Cl} {i : Nat} (hi : i < L.length) : L[i]?.getD default ∈ L := by
  have e : L[i]?.getD default = L[i] := by simp [hi]
  rw [e]; exact List.getElem_mem hi

set_option maxHeartbeats 32000000 in
set_option maxRecDepth 100000 in
theorem open_walk {w : World} {v0 v2 : Value} {vs : List Vw} {xs : List Sf} (src : Int) (hv : Vs w v0 vs) (h2 : Ss w v2 xs) : Calls Try.prog 5 #[v0, .int .i64 src, v2] w fun e w' => e = .returned (.bool true) ∧ Fr w w' (fun _ => False) := by
  have HV := hid hv
  have HX := hid h2
  obtain ⟨ao, cap, rfl, hvl, _⟩ := id hv
  obtain ⟨bo, cap2, rfl, hxl, _⟩ := id h2
  clear hv h2
  by_cases hok : rightVs vs = true ∧ (1 ≤ src ∧ src ≤ 8)
  case neg =>
    have HNE : Hid (∃ en : Int, en ≠ 0 ∧ ∀ W : World, Fr w W (fun _ => False) → Calls Try.prog 11 #[.slice ao vs.length cap, .int .i64 src] W fun e w' => e = .returned (.tuple #[.pointer none, .int .i64 en]) ∧ Fr W w' (fun _ => False)) := by
      rcases hr : rightVs vs with _ | _
      · exact ⟨24, by decide, fun W hW => onew_bad (HV.out.fr hW (fun _ _ _ _ _ h => h)) hr src⟩
      · exact ⟨1, by decide, fun W hW => onew_arg (HV.out.fr hW (fun _ _ _ _ _ h => h)) hr (fun h => hok ⟨hr, h⟩)⟩
    obtain ⟨en, hen, hne⟩ := HNE.out
    have HN := hid hne
    have q0 : (en != 0) = true := by simpa using hen
    clear HNE hne hok hen
    go_enter Try.func5, Try.ntmps5
    go_wp2_with fail
    refine (known_any _).mono ?_
    rintro e w1 ⟨rfl, hf⟩
    have HF := hid hf
    clear hf
    go_wp2_with fail
    refine (HN.out _ HF.out).mono ?_
    rintro e w2 ⟨rfl, hf⟩
    have HF2 := hid (HF.out.trans hf)
    clear hf
    go_wp2_with fail
    go_ret
    exact ⟨rfl, HF2.out⟩
  case pos =>
    obtain ⟨hr, hn1, hn8⟩ := hok
    obtain ⟨n, rfl⟩ : ∃ n : Nat, src = (n : Int) := ⟨src.toNat, by omega⟩
    have h1 : 1 ≤ n := by omega
    have h8 : n ≤ 8 := by omega
    have HN := hid (fun (W : World) (hW : Fr w W (fun _ => False)) => onew_ok (HV.out.fr hW (fun _ _ _ _ _ h => h)) hr h1 h8)
    clear hr hn1 hn8
    go_enter Try.func5, Try.ntmps5
    go_wp2_with fail
    refine (known_any _).mono ?_
    rintro e w1 ⟨rfl, hf⟩
    have HF := hid hf
    clear hf
    go_wp2_with fail
    refine (HN.out _ HF.out).mono ?_
    rintro e w2 ⟨x, rfl, hop, hb, hf⟩
    obtain ⟨s0, hs0⟩ : ∃ s0 : Os2, s0 = ⟨List.replicate n noM, []⟩ := ⟨_, rfl⟩
    have HL0 : Hid (s0.L.length = 0) := by subst hs0; rfl
    have HP : Hid (OG w x vs s0 (.slice none 0 0) [] w2) := by
      have hz := HF.out.size
      have ha : Op w2 x vs s0.ms s0.L := by subst hs0; exact hop
      exact ⟨⟨ha, by unfold Beh; omega, HF.out.trans hf⟩, kw_nil _ _, by simp, by simp⟩
    clear hop hb hf HF HN hs0 hvl
    obtain ⟨NN, hNN⟩ : ∃ NN, NN = min xs.length 150 := ⟨_, rfl⟩
    have HNN := hid hNN
    clear hNN
    go_wp2_with fail
    go_loopg [9, 10] NN (fun q s9 s10 wx => ∃ (i : Nat) (st : Os2) (GL : List Cl) (ga : Option Addr) (gc : Nat), s10 = .int .i64 (i : Int) ∧ s9 = .slice ga GL.length gc ∧ Hid (i + q = NN) ∧ Hid (st.L.length ≤ i * 300) ∧ Hid (OG w x vs st (.slice ga GL.length gc) GL wx))
    case atStart => exact ⟨0, s0, [], none, 0, rfl, rfl, by show _ = _; omega, by show _ ≤ _; rw [HL0.out]; omega, HP⟩
    case round =>
      obtain ⟨i, st, GL, ga, gc, rfl, rfl, HG, HL1, HP1⟩ := hrel
      clear HP HL0
      cases gk with
      | zero =>
        have hend : ¬ i < xs.length ∨ (i < xs.length ∧ ¬ i < 150) := by have := HG.out; have := HNN.out; omega
        rcases hend with h1 | ⟨h1, h2⟩
        · have t1 : ¬ (i : Int) < (xs.length : Int) := by omega
          go_wp2_with fail
          go_ret
          exact ⟨rfl, HP1.out.o.fr⟩
        · have t1 : (i : Int) < (xs.length : Int) := by omega
          have t2 : ¬ (i : Int) < 150 := by omega
          go_wp2_with fail
          go_ret
          exact ⟨rfl, HP1.out.o.fr⟩
      | succ q =>
        have hi9 : i < xs.length ∧ i < 150 := by have := HG.out; have := HNN.out; omega
        obtain ⟨g1, g2⟩ := hi9
        have t1 : (i : Int) < (xs.length : Int) := by omega
        have t2 : (i : Int) < 150 := by omega
        obtain ⟨b, off, rfl, _⟩ := (HX.out.step HP1.out.o.fr).at g1
        have HXU := hid (fun (W : World) (hW : Fr w W (fun _ => False)) => HX.out.use g1 hW)
        obtain ⟨y1, hy1⟩ : ∃ y1, y1 = xs[i]?.getD default := ⟨_, rfl⟩
        rw [← hy1] at HXU
        have HCX := hid ((HXU.out _ HP1.out.o.fr).2.2.1)
        obtain ⟨ya, ycap, hyc, _⟩ := id (HXU.out _ HP1.out.o.fr).2.1
        obtain ⟨yk, ys', ykey, yt, yval, ycv, ycs⟩ := y1
        dsimp only at hyc
        subst hyc
        have HOK := hid HP1.out.o.a.marks.ok
        have HS1 := hid (doS_len HP1.out.o.a.okv HP1.out.o.a.four st ⟨yk, ys', ykey, yt, yval, .slice ya ycs.length ycap, ycs⟩)
        have HG1 := hid (goS_len (vs := vs) st ⟨yk, ys', ykey, yt, yval, .slice ya ycs.length ycap, ycs⟩)
        have HLE := hid (doS_least (vs := vs) HP1.out.o.a.marks.ok ⟨yk, ys', ykey, yt, yval, .slice ya ycs.length ycap, ycs⟩)
        have HGM := hid (fun (c : Cl) (hc : c ∈ goS vs st ⟨yk, ys', ykey, yt, yval, .slice ya ycs.length ycap, ycs⟩) => goS_mem hc)
        have HGR := hid (goS_ri (vs := vs) (y := ⟨yk, ys', ykey, yt, yval, .slice ya ycs.length ycap, ycs⟩) HP1.out.o.a.ri)
        have HSTY := hid (fun (c : Cl) (hc : c ∈ st.L) => doS_stay (vs := vs) (y := ⟨yk, ys', ykey, yt, yval, .slice ya ycs.length ycap, ycs⟩) hc)
        have hstl : st.L.length ≤ 45000 := by have := HL1.out; omega
        have HDO := hid (fun (W : World) (hW : OG w x vs st (.slice ga GL.length gc) GL W) => hW.do (q := ⟨yk, ys', ykey, yt, yval, .slice ya ycs.length ycap, ycs⟩) (by omega) (HXU.out W hW.o.fr).2.1 HCX.out)
        unfold sfV at HDO
        generalize doS vs st ⟨yk, ys', ykey, yt, yval, .slice ya ycs.length ycap, ycs⟩ = st' at *
        generalize goS vs st ⟨yk, ys', ykey, yt, yval, .slice ya ycs.length ycap, ycs⟩ = G at *
        clear hy1
        dsimp only at *
        have HGL := hid (show G.length ≤ 45000 by have := HG1.out; omega)
        have HLL := hid (show st'.L.length ≤ 46000 by have := HS1.out; omega)
        -- what was live, the least mark, the step, what is live now
        go_wp2_with fail
        refine (live_any HP1.out.o.a (by omega)).mono ?_
        rintro e w10 ⟨u1, rfl, hk1, hf1⟩
        have HP2 := hid (HP1.out.step hf1)
        have HK1 := hid hk1
        obtain ⟨wa, wc', rfl⟩ := hk1.shape
        clear hk1 hf1
        go_wp2_with fail
        refine (oleast_any HP2.out.o.a).mono ?_
        rintro e w11 ⟨rfl, hf2⟩
        have HP3 := hid (HP2.out.step hf2)
        have HK2 := hid (HK1.out.fr hf2 (fun _ _ h => h))
        clear hf2 HP2 HK1
        obtain ⟨⟨d0, d1, d2, d3, d4, d5⟩, _, _, dl⟩ := HXU.out _ HP3.out.o.fr
        dsimp only at d0 d1 d2 d3 d4 d5
        go_wp2_with fail
        refine (HDO.out _ HP3.out).mono ?_
        rintro e w12 ⟨u2, rfl, hp4, hk4, hf4⟩
        have HP4 := hid hp4
        have HK3 := hid (HK2.out.done HP3.out.o.a hf4)
        have HK4 := hid hk4
        obtain ⟨na, nc, rfl⟩ := hk4.shape
        clear d0 d1 d2 d3 d4 d5 dl hp4 hk4 hf4 HP3 HK2 HDO
        go_wp2_with fail
        refine (live_any HP4.out.o.a (by have := HLL.out; omega)).mono ?_
        rintro e w13 ⟨u3, rfl, hk5, hf5⟩
        have HP5 := hid (HP4.out.step hf5)
        have HWAS := hid ((HK3.out.fr hf5 (fun _ _ h => h)).ks (by omega))
        have HWK := hid (HK4.out.fr hf5 (fun _ _ h => h))
        have HNOW := hid (hk5.ks (by have := HLL.out; omega))
        obtain ⟨la, lc, rfl⟩ := hk5.shape
        clear hk5 hf5 HP4 HK3 HK4
        have HWENT := hid (HWK.out.ks (by have := HGL.out; omega))
        have HRIN := hid HP5.out.o.a.ri
        obtain ⟨lm, hlm⟩ : ∃ lm, lm = leastL st'.ms := ⟨_, rfl⟩
        obtain ⟨lo, hlo⟩ : ∃ lo, lo = leastL st.ms := ⟨_, rfl⟩
        have HLEA := hid (fun (W : World) (hW : Fr w13 W (fun _ => False)) => oleast_any (HP5.out.step hW).o.a)
        rw [← hlm] at HLEA HGM HLE
        rw [← hlo] at HLE ⊢
        have HLM := hid hlm
        clear hlm hlo
        have tl : decide (lm < lo) = false := decide_eq_false (by have := HLE.out; omega)
        have tl2 : ¬ lm < lo := by have := HLE.out; omega
        have HHG := hid (fun (W : World) (hW : Fr w13 W (fun _ => False)) (c : Cl) => has_any (HP5.out.step hW).ks c)
        have HHN := hid (fun (W : World) (hW : Fr w13 W (fun _ => False)) (c : Cl) => has_any (HNOW.out.step hW) c)
        have HHW := hid (fun (W : World) (hW : Fr w13 W (fun _ => False)) (c : Cl) => has_any (HWENT.out.step hW) c)
        have HHA := hid (fun (W : World) (hW : Fr w13 W (fun _ => False)) (c : Cl) => has_any (HWAS.out.step hW) c)
        unfold vC at HHG HHN HHW HHA
        go_wp2_with fail
        refine (HLEA.out _ (Fr.refl _ _)).mono ?_
        rintro e w14 ⟨rfl, hf6⟩
        have HF6 := hid hf6
        clear hf6
        go_wp2_with fail
        refine (rises_true (HNOW.out.step HF6.out) HRIN.out).mono ?_
        rintro e w15 ⟨rfl, hf7⟩
        have HF7 := hid (HF6.out.trans hf7)
        clear hf7 HF6
        go_wp2_with fail
        refine (rises_true (HWENT.out.step HF7.out) HGR.out).mono ?_
        rintro e w16 ⟨rfl, hf8⟩
        have HF8 := hid (HF7.out.trans hf8)
        clear hf8 HF7
        go_wp2_with fail
        clear tl tl2
        go_loopg [15] (st'.L).length (fun qq s15 wx => ∃ k : Nat, s15 = .int .i64 (k : Int) ∧ Hid (k + qq = (st'.L).length) ∧ Hid (Fr w13 wx (fun _ => False)))
        case atStart => exact ⟨0, rfl, by show _ = _; omega, HF8⟩
        case round =>
          obtain ⟨k, rfl, HGk, HFk⟩ := hrel
          clear HF8
          cases gk with
          | zero =>
            have t3 : ¬ (k : Int) < ((st'.L).length : Int) := by have := HGk.out; omega
            have HF8 := HFk
            clear HFk
            go_wp2_with fail
            clear t3
            generalize wr = wz at *
            go_loopg [16] (G).length (fun qq s16 wx => ∃ k : Nat, s16 = .int .i64 (k : Int) ∧ Hid (k + qq = (G).length) ∧ Hid (Fr w13 wx (fun _ => False)))
            case atStart => exact ⟨0, rfl, by show _ = _; omega, HF8⟩
            case round =>
              obtain ⟨k, rfl, HGk, HFk⟩ := hrel
              clear HF8
              cases gk with
              | zero =>
                have t3 : ¬ (k : Int) < ((G).length : Int) := by have := HGk.out; omega
                have HF8 := HFk
                clear HFk
                go_wp2_with fail
                clear t3
                generalize wr = wz at *
                go_loopg [17] st.L.length (fun qq s17 wx => ∃ k : Nat, s17 = .int .i64 (k : Int) ∧ Hid (k + qq = st.L.length) ∧ Hid (Fr w13 wx (fun _ => False)))
                case atStart => exact ⟨0, rfl, by show _ = _; omega, HF8⟩
                case round =>
                  obtain ⟨k, rfl, HGk, HFk⟩ := hrel
                  clear HF8
                  cases gk with
                  | zero =>
                    have t3 : ¬ (k : Int) < (st.L.length : Int) := by have := HGk.out; omega
                    have HF8 := HFk
                    clear HFk
                    have HPT := hid (HP5.out.step HF8.out)
                    have HWK2 := hid (HWK.out.fr HF8.out (fun _ _ h => h))
                    have hb9 : w.heap.size ≤ wr.heap.size := HPT.out.o.fr.size
                    go_upto_if 161 with fail
                    go_cut [9] from 161 to 164 (fun s9 wx => ∃ (ga2 : Option Addr) (GL2 : List Cl) (gc2 : Nat), s9 = .slice ga2 GL2.length gc2 ∧ Hid (OG w x vs st' (.slice ga2 GL2.length gc2) GL2 wx))
                    case first =>
                      by_cases hg4 : GL.length < 400
                      · have t4 : (GL.length : Int) < 400 := by omega
                        have hgs : GL.length + G.length ≤ 1000000000 := by have := HGL.out; omega
                        go_wp2_with (at_builtin; go_must (refine wpl_kwk rfl (.tmp 162) (.tmp 163) rfl (.slice ga GL.length gc) GL rfl (.slice na G.length nc) G rfl HWK2.out hgs HPT.out.k hb9 ?_))
                        intro v' w17 hkm hgm
                        have hpm := HPT.out.more hgm hkm (by rw [List.length_append]; have := HGL.out; omega) (fun c hc => by rw [← HLM.out]; exact (HGM.out c hc).2)
                        obtain ⟨ga2, gc2, rfl⟩ := hkm.shape
                        have HP6 := hid hpm
                        clear hpm hkm hgm t4 hgs
                        go_wp2_with fail
                        go_meet
                        exact ⟨ga2, GL ++ G, gc2, by simp, HP6⟩
                      · have t4 : ¬ (GL.length : Int) < 400 := by omega
                        go_wp2_with fail
                        go_meet
                        exact ⟨ga, GL, gc, rfl, HPT⟩
                    case rest =>
                      obtain ⟨ga2, GL2, gc2, hs9, HP6⟩ := hcut
                      subst hs9
                      clear HPT HWK2 t3
                      obtain ⟨⟨d0, d1, d2, d3, d4, d5⟩, _, _, dl⟩ := HXU.out _ HP6.out.o.fr
                      dsimp only at d0 d1 d2 d3 d4 d5
                      by_cases yk1 : yk = 1
                      · subst yk1
                        go_upto_region 34 with (fail)
                        have HCL : Hid (∀ W : World, Fr w W (fun _ => False) → Hid (Fr w W (fun _ => False)) ∧ W.cell? ⟨b, off + i * 6 + 2, none⟩ = some (.string ykey) ∧ W.cell? ⟨b, off + i * 6 + 3, none⟩ = some (.int .i64 yt) ∧ b < W.heap.size) := fun W hW => ⟨hW, (HXU.out W hW).1.2.2.1, (HXU.out W hW).1.2.2.2.1, (HXU.out W hW).2.2.2⟩
                        clear d0 d1 d2 d3 d4 d5 dl
                        obtain ⟨_, d2, d3, dl⟩ := HCL.out _ HP6.out.o.fr
                        have HRI := hid (fun (W : World) (hW : OG w x vs st' (.slice ga2 GL2.length gc2) GL2 W) => take_any hW.o.a ykey yt)
                        have HSM := hid (takeL_small (m := leastL st'.ms) (t := yt) (k := ykey) HP6.out.o.a.okv HP6.out.o.a.four)
                        have HTO := hid (fun (c : Cl) (hc : c ∈ takeL vs (leastL st'.ms) ykey yt) => takeL_open hc)
                        generalize takeL vs (leastL st'.ms) ykey yt = tl at *
                        generalize takeB vs (leastL st'.ms) ykey yt = tb at *
                        generalize takeE vs ykey yt = te at *
                        have HSS := hid HP6.out.o.fr
                        go_region_held3 (fun W' => Hid (Fr w W' (fun _ => False)) ∧ W'.cell? ⟨b, off + i * 6 + 2, none⟩ = some (.string ykey) ∧ W'.cell? ⟨b, off + i * 6 + 3, none⟩ = some (.int .i64 yt) ∧ b < W'.heap.size)
                          ((refine HCL.out _ ?_; first | exact HSS.out | exact HSS.out.drew | exact HSS.out.drew.drew))
                          ((go_at_call 27; refine (HRI.out _ (by first | exact HP6.out | exact HP6.out.step (Fr.refl _ _).drew)).mono ?_; rintro e w19 ⟨tu, rfl, hko, hf9⟩; obtain ⟨ta, rfl⟩ := hko.shape; have HKT := hid (hko.ks (by have := HSM.out; omega)); have HP7 := hid ((by first | exact HP6.out | exact HP6.out.step (Fr.refl _ _).drew : OG w x vs st' (.slice ga2 GL2.length gc2) GL2 _).step hf9); clear hko hf9 HSS; have HSS := hid HP7.out.o.fr))
                        clear d2 d3 dl HRI
                        have HPD := hid (HP7.out.step (Fr.refl _ (fun _ => False)).drew)
                        have HKD := hid (HKT.out.step (Fr.refl _ (fun _ => False)).drew)
                        have HHG2 := hid (fun (W : World) (hW : Fr w19 W (fun _ => False)) (c : Cl) => has_any (HP7.out.step hW).ks c)
                        unfold vC at HHG2
                        go_wp2_with fail
                        go_loopg [21] tl.length (fun qq s21 wx => ∃ k : Nat, s21 = .int .i64 (k : Int) ∧ Hid (k + qq = tl.length) ∧ Hid (Fr w19 wx (fun _ => False)))
                        case atStart => exact ⟨0, rfl, by show _ = _; omega, by first | exact hid (Fr.refl _ _) | exact hid (Fr.refl w19 _).drew⟩
                        case round =>
                          obtain ⟨k, rfl, HGk, HFk⟩ := hrel
                          clear HSS
                          cases gk with
                          | zero =>
                            have t3 : ¬ (k : Int) < (tl.length : Int) := by have := HGk.out; omega
                            have HP8 := hid (HP7.out.step HFk.out)
                            go_wp2_with fail
                            go_roundg q
                            case measure => omega
                            case rel => exact ⟨i + 1, st', GL2, ga2, gc2, by go_num, rfl, by have := HG.out; show _ = _; omega, by have := HL1.out; have := HS1.out; show _ ≤ _; omega, HP8⟩
                          | succ qq =>
                           as_aux_lemma =>
                            have hk : k < tl.length := by have := HGk.out; omega
                            have t3 : (k : Int) < (tl.length : Int) := by omega
                            have hkb : k ≤ 50000 := by have := HSM.out; omega
                            obtain ⟨cg, co, rfl, _⟩ := (HKT.out.step HFk.out).at hk
                            have HCU := hid (fun (W : World) (hW : Fr w19 W (fun _ => False)) => HKT.out.use hk hW)
                            have hmem := mem_getD hk
                            obtain ⟨ho1, ho2, ho3⟩ := HTO.out _ hmem
                            have hg0 : decide (tl[k]?.getD default ∈ GL2) = false := decide_eq_false (fun hm => by have := HP7.out.sh _ hm; rw [ho1] at this; cases this)
                            have HCG := hid (fun (W : World) (hW : Fr w19 W (fun _ => False)) => HHG2.out W hW (tl[k]?.getD default))
                            rw [hg0] at HCG
                            rw [ho2] at HCU HCG
                            subst ho3
                            have HK9 := hid hk
                            clear hk hg0 hmem ho1 ho2
                            generalize (tl[k]?.getD default).v = cv at *
                            generalize (tl[k]?.getD default).s = cs at *
                            have HYU := hid (fun (W : World) (hW : Fr w19 W (fun _ => False)) => (show W.cell? ⟨b, off + i * 6 + 2, none⟩ = some (.string ykey) ∧ b < W.heap.size from ⟨(HXU.out W (HP7.out.o.fr.trans hW)).1.2.2.1, (HXU.out W (HP7.out.o.fr.trans hW)).2.2.2⟩))
                            go_upto_region 38 with (fail)
                            have HS := hid HFk.out
                            obtain ⟨_, _, _, hcb⟩ := HCU.out _ HFk.out
                            obtain ⟨_, hbb⟩ := HYU.out _ HFk.out
                            go_region_held3 (fun W' => Hid (Fr w19 W' (fun _ => False)) ∧ (W'.cell? ⟨cg, co + k * 3, none⟩ = some (.int .i64 cv) ∧ W'.cell? ⟨cg, co + k * 3 + 1, none⟩ = some (.string ykey) ∧ W'.cell? ⟨cg, co + k * 3 + 2, none⟩ = some (.int .i64 cs) ∧ cg < W'.heap.size) ∧ (W'.cell? ⟨b, off + i * 6 + 2, none⟩ = some (.string ykey) ∧ b < W'.heap.size))
                              ((refine (fun hh => ⟨hh, HCU.out _ hh, HYU.out _ hh⟩ : Fr w19 _ (fun _ => False) → _) ?_; first | exact HS.out | exact HS.out.drew | exact HS.out.drew.drew))
                              ((first
                                | ((with_reducible refine (HCG.out _ (by first | exact HS.out | exact HS.out.drew)).mono ?_); rintro e w29 ⟨rfl, hf9⟩; have HS9 := hid ((by first | exact HS.out | exact HS.out.drew : Fr w19 _ (fun _ => False)).trans hf9); clear hf9 HS; have HS := HS9; clear HS9)
                                ))
                            go_wp2_with fail
                            go_roundg qq
                            case measure => omega
                            case rel => exact ⟨k + 1, by go_num, by have := HGk.out; show _ = _; omega, by first | exact HS | exact hid HS.out.drew⟩
                      · have q1 : (yk == 1) = false := by simpa using yk1
                        go_wp2_with fail
                        go_roundg q
                        case measure => omega
                        case rel => exact ⟨i + 1, st', GL2, ga2, gc2, by go_num, rfl, by have := HG.out; show _ = _; omega, by have := HL1.out; have := HS1.out; show _ ≤ _; omega, HP6⟩
                  | succ qq =>
                    as_aux_lemma =>
                      have hk : k < st.L.length := by have := HGk.out; omega
                      have t3 : (k : Int) < (st.L.length : Int) := by omega
                      have hkb : k ≤ 50000 := by omega
                      obtain ⟨cg, co, rfl, _⟩ := (HWAS.out.step HFk.out).at hk
                      have HCU := hid (fun (W : World) (hW : Fr w13 W (fun _ => False)) => HWAS.out.use hk hW)
                      have hmem := mem_getD hk
                      have hst := HSTY.out _ hmem
                      have HCN := hid (fun (W : World) (hW : Fr w13 W (fun _ => False)) => HHN.out W hW (st.L[k]?.getD default))
                      have HCW := hid (fun (W : World) (hW : Fr w13 W (fun _ => False)) => HHW.out W hW (st.L[k]?.getD default))
                      rw [hst] at HCN
                      have HK9 := hid hk
                      clear hk hst hmem
                      generalize st.L[k]?.getD default = c at *
                      obtain ⟨cv, ck, cs⟩ := c
                      generalize decide ((⟨cv, ck, cs⟩ : Cl) ∈ G) = bb at *
                      go_upto_region 29 with (fail)
                      have HS := hid HFk.out
                      obtain ⟨_, _, _, hcb⟩ := HCU.out _ HFk.out
                      rcases bb with _ | _
                      all_goals
                        simp only [Bool.not_false, Bool.not_true] at HCN
                        go_region_held3 (fun W' => Hid (Fr w13 W' (fun _ => False)) ∧ (W'.cell? ⟨cg, co + k * 3, none⟩ = some (.int .i64 cv) ∧ W'.cell? ⟨cg, co + k * 3 + 1, none⟩ = some (.string ck) ∧ W'.cell? ⟨cg, co + k * 3 + 2, none⟩ = some (.int .i64 cs) ∧ cg < W'.heap.size))
                          ((refine (fun hh => ⟨hh, HCU.out _ hh⟩ : Fr w13 _ (fun _ => False) → _) ?_; first | exact HS.out | exact HS.out.drew | exact HS.out.drew.drew))
                          ((first
                            | ((with_reducible refine (HCN.out _ (by first | exact HS.out | exact HS.out.drew)).mono ?_); rintro e w19 ⟨rfl, hf9⟩; have HS9 := hid ((by first | exact HS.out | exact HS.out.drew : Fr w13 _ (fun _ => False)).trans hf9); clear hf9 HS; have HS := HS9; clear HS9)
                            | ((with_reducible refine (HCW.out _ (by first | exact HS.out | exact HS.out.drew)).mono ?_); rintro e w19 ⟨rfl, hf9⟩; have HS9 := hid ((by first | exact HS.out | exact HS.out.drew : Fr w13 _ (fun _ => False)).trans hf9); clear hf9 HS; have HS := HS9; clear HS9)
                            ))
                        go_wp2_with fail
                        go_roundg qq
                        case measure => omega
                        case rel => exact ⟨k + 1, by go_num, by have := HGk.out; show _ = _; omega, by first | exact HS | exact hid HS.out.drew⟩
              | succ qq =>
                as_aux_lemma =>
                  have hk : k < (G).length := by have := HGk.out; omega
                  have t3 : (k : Int) < ((G).length : Int) := by omega
                  have hkb : k ≤ 50000 := by have := HLL.out; have := HGL.out; omega
                  obtain ⟨cg, co, rfl, _⟩ := (HWENT.out.step HFk.out).at hk
                  have HCU := hid (fun (W : World) (hW : Fr w13 W (fun _ => False)) => HWENT.out.use hk hW)
                  have hmem := mem_getD hk
                  have hokc : OkK vs (G[k]?.getD default) ∧ shK vs lm (G[k]?.getD default) = true := ⟨(HP1.out.o.a.live _ (HGM.out _ hmem).1).1, (HGM.out _ hmem).2⟩
                  have hg0 : decide (G[k]?.getD default ∈ st.L) = true := decide_eq_true (HGM.out _ hmem).1
                  have HCA := hid (fun (W : World) (hW : Fr w13 W (fun _ => False)) => HHA.out W hW (G[k]?.getD default))
                  rw [hg0] at HCA
                  clear hg0 hmem
                  have HK9 := hid hk
                  clear hk
                  generalize (G)[k]?.getD default = c at *
                  obtain ⟨hok1, hok2⟩ := hokc
                  obtain ⟨hc0, hc1, _, _, hc2, hc3⟩ := hok1
                  obtain ⟨hfi1, hfi2⟩ := okK_fits HP5.out.o.a.okv hc0 hc1 hc2 hc3
                  have hlt9 : c.v.toNat < vs.length := by omega
                  obtain ⟨vb, vo, rfl, hvu⟩ := vs_use HV.out hlt9
                  have HVU := hid (fun (W : World) (hW : Fr w13 W (fun _ => False)) => hvu W (HP5.out.o.fr.trans hW))
                  have HCLO := hid (fun W : World => closed_any (vs.getD c.v.toNat vw0).s (vs.getD c.v.toNat vw0).d (vs.getD c.v.toNat vw0).l c.s lm hfi1 hfi2 W)
                  have hsh : decide (c.s + (vs.getD c.v.toNat vw0).s + (vs.getD c.v.toNat vw0).l ≤ lm) = true := hok2
                  rw [hsh] at HCLO
                  obtain ⟨cv, ck, cs⟩ := c
                  obtain ⟨nv, hnv⟩ : ∃ nv : Nat, cv = (nv : Int) := ⟨cv.toNat, by dsimp only at hc0; omega⟩
                  subst hnv
                  simp only [Int.toNat_natCast] at *
                  have t4 : (nv : Int) < (vs.length : Int) := by omega
                  have t5 : nv < vs.length := hlt9
                  clear hsh hvu hfi1 hfi2 hc0 hc1 hc2 hc3 hlt9 hok2
                  generalize (vs.getD nv vw0).s = vs0 at *
                  generalize (vs.getD nv vw0).d = vd0 at *
                  generalize (vs.getD nv vw0).l = vl0 at *
                  go_upto_region 24 with (fail)
                  have HS := hid HFk.out
                  obtain ⟨_, _, _, hcb⟩ := HCU.out _ HFk.out
                  obtain ⟨_, _, _, hvb⟩ := HVU.out _ HFk.out
                  go_region_held3 (fun W' => Hid (Fr w13 W' (fun _ => False)) ∧ (W'.cell? ⟨cg, co + k * 3, none⟩ = some (.int .i64 (nv : Int)) ∧ W'.cell? ⟨cg, co + k * 3 + 1, none⟩ = some (.string ck) ∧ W'.cell? ⟨cg, co + k * 3 + 2, none⟩ = some (.int .i64 cs) ∧ cg < W'.heap.size) ∧ (W'.cell? ⟨vb, vo + nv * 3, none⟩ = some (.int .i64 vs0) ∧ W'.cell? ⟨vb, vo + nv * 3 + 1, none⟩ = some (.int .i64 vd0) ∧ W'.cell? ⟨vb, vo + nv * 3 + 2, none⟩ = some (.int .i64 vl0) ∧ vb < W'.heap.size))
                    ((refine (fun hh => ⟨hh, HCU.out _ hh, HVU.out _ hh⟩ : Fr w13 _ (fun _ => False) → _) ?_; first | exact HS.out | exact HS.out.drew | exact HS.out.drew.drew))
                    ((first
                      | (go_at_call 25; refine (HCLO.out _).mono ?_; rintro e w19 ⟨rfl, hf9⟩; have HS9 := hid ((by first | exact HS.out | exact HS.out.drew : Fr w13 _ (fun _ => False)).trans hf9); clear hf9 HS; have HS := HS9; clear HS9)
                      | ((with_reducible refine (HLEA.out _ (by first | exact HS.out | exact HS.out.drew)).mono ?_); rintro e w19 ⟨rfl, hf9⟩; have HS9 := hid ((by first | exact HS.out | exact HS.out.drew : Fr w13 _ (fun _ => False)).trans hf9); clear hf9 HS; have HS := HS9; clear HS9)
                      | ((with_reducible refine (HCA.out _ (by first | exact HS.out | exact HS.out.drew)).mono ?_); rintro e w19 ⟨rfl, hf9⟩; have HS9 := hid ((by first | exact HS.out | exact HS.out.drew : Fr w13 _ (fun _ => False)).trans hf9); clear hf9 HS; have HS := HS9; clear HS9)
                      ))
                  go_wp2_with fail
                  go_roundg qq
                  case measure => omega
                  case rel => exact ⟨k + 1, by go_num, by have := HGk.out; show _ = _; omega, by first | exact HS | exact hid HS.out.drew⟩
          | succ qq =>
            as_aux_lemma =>
              have hk : k < (st'.L).length := by have := HGk.out; omega
              have t3 : (k : Int) < ((st'.L).length : Int) := by omega
              have hkb : k ≤ 50000 := by have := HLL.out; have := HGL.out; omega
              obtain ⟨cg, co, rfl, _⟩ := (HNOW.out.step HFk.out).at hk
              have HCU := hid (fun (W : World) (hW : Fr w13 W (fun _ => False)) => HNOW.out.use hk hW)
              have hmem := mem_getD hk
              have hokc : OkK vs (st'.L[k]?.getD default) ∧ shK vs lm (st'.L[k]?.getD default) = false := by rw [HLM.out]; exact HP5.out.o.a.live _ hmem
              have hg0 : decide (st'.L[k]?.getD default ∈ GL) = false := decide_eq_false (fun hm => by have := HP5.out.sh _ hm; rw [← HLM.out, hokc.2] at this; cases this)
              have hw0 : decide (st'.L[k]?.getD default ∈ G) = false := decide_eq_false (fun hm => by have := (HGM.out _ hm).2; rw [hokc.2] at this; cases this)
              have HCG := hid (fun (W : World) (hW : Fr w13 W (fun _ => False)) => HHG.out W hW (st'.L[k]?.getD default))
              have HCW := hid (fun (W : World) (hW : Fr w13 W (fun _ => False)) => HHW.out W hW (st'.L[k]?.getD default))
              rw [hg0] at HCG
              rw [hw0] at HCW
              clear hg0 hw0 hmem
              have HK9 := hid hk
              clear hk
              generalize (st'.L)[k]?.getD default = c at *
              obtain ⟨hok1, hok2⟩ := hokc
              obtain ⟨hc0, hc1, _, _, hc2, hc3⟩ := hok1
              obtain ⟨hfi1, hfi2⟩ := okK_fits HP5.out.o.a.okv hc0 hc1 hc2 hc3
              have hlt9 : c.v.toNat < vs.length := by omega
              obtain ⟨vb, vo, rfl, hvu⟩ := vs_use HV.out hlt9
              have HVU := hid (fun (W : World) (hW : Fr w13 W (fun _ => False)) => hvu W (HP5.out.o.fr.trans hW))
              have HCLO := hid (fun W : World => closed_any (vs.getD c.v.toNat vw0).s (vs.getD c.v.toNat vw0).d (vs.getD c.v.toNat vw0).l c.s lm hfi1 hfi2 W)
              have hsh : decide (c.s + (vs.getD c.v.toNat vw0).s + (vs.getD c.v.toNat vw0).l ≤ lm) = false := hok2
              rw [hsh] at HCLO
              obtain ⟨cv, ck, cs⟩ := c
              obtain ⟨nv, hnv⟩ : ∃ nv : Nat, cv = (nv : Int) := ⟨cv.toNat, by dsimp only at hc0; omega⟩
              subst hnv
              simp only [Int.toNat_natCast] at *
              have t4 : (nv : Int) < (vs.length : Int) := by omega
              have t5 : nv < vs.length := hlt9
              clear hsh hvu hfi1 hfi2 hc0 hc1 hc2 hc3 hlt9 hok2
              generalize (vs.getD nv vw0).s = vs0 at *
              generalize (vs.getD nv vw0).d = vd0 at *
              generalize (vs.getD nv vw0).l = vl0 at *
              go_upto_region 19 with (fail)
              have HS := hid HFk.out
              obtain ⟨_, _, _, hcb⟩ := HCU.out _ HFk.out
              obtain ⟨_, _, _, hvb⟩ := HVU.out _ HFk.out
              go_region_held3 (fun W' => Hid (Fr w13 W' (fun _ => False)) ∧ (W'.cell? ⟨cg, co + k * 3, none⟩ = some (.int .i64 (nv : Int)) ∧ W'.cell? ⟨cg, co + k * 3 + 1, none⟩ = some (.string ck) ∧ W'.cell? ⟨cg, co + k * 3 + 2, none⟩ = some (.int .i64 cs) ∧ cg < W'.heap.size) ∧ (W'.cell? ⟨vb, vo + nv * 3, none⟩ = some (.int .i64 vs0) ∧ W'.cell? ⟨vb, vo + nv * 3 + 1, none⟩ = some (.int .i64 vd0) ∧ W'.cell? ⟨vb, vo + nv * 3 + 2, none⟩ = some (.int .i64 vl0) ∧ vb < W'.heap.size))
                ((refine (fun hh => ⟨hh, HCU.out _ hh, HVU.out _ hh⟩ : Fr w13 _ (fun _ => False) → _) ?_; first | exact HS.out | exact HS.out.drew | exact HS.out.drew.drew))
                ((first
                  | (go_at_call 25; refine (HCLO.out _).mono ?_; rintro e w19 ⟨rfl, hf9⟩; have HS9 := hid ((by first | exact HS.out | exact HS.out.drew : Fr w13 _ (fun _ => False)).trans hf9); clear hf9 HS; have HS := HS9; clear HS9)
                  | ((with_reducible refine (HLEA.out _ (by first | exact HS.out | exact HS.out.drew)).mono ?_); rintro e w19 ⟨rfl, hf9⟩; have HS9 := hid ((by first | exact HS.out | exact HS.out.drew : Fr w13 _ (fun _ => False)).trans hf9); clear hf9 HS; have HS := HS9; clear HS9)
                  | ((with_reducible refine (HCG.out _ (by first | exact HS.out | exact HS.out.drew)).mono ?_); rintro e w19 ⟨rfl, hf9⟩; have HS9 := hid ((by first | exact HS.out | exact HS.out.drew : Fr w13 _ (fun _ => False)).trans hf9); clear hf9 HS; have HS := HS9; clear HS9)
                  | ((with_reducible refine (HCW.out _ (by first | exact HS.out | exact HS.out.drew)).mono ?_); rintro e w19 ⟨rfl, hf9⟩; have HS9 := hid ((by first | exact HS.out | exact HS.out.drew : Fr w13 _ (fun _ => False)).trans hf9); clear hf9 HS; have HS := HS9; clear HS9)
                  ))
              go_wp2_with fail
              go_roundg qq
              case measure => omega
              case rel => exact ⟨k + 1, by go_num, by have := HGk.out; show _ = _; omega, by first | exact HS | exact hid HS.out.drew⟩
end Go.Proofs.Ytglkjhpkeelajaa.V
