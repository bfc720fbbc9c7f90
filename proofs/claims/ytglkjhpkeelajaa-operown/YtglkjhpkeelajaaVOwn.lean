/- OperOwn: the walk. (Written by a program.) -/
import Derived.Test.YtglkjhpkeelajaaVOwnP
namespace Go.Proofs.Ytglkjhpkeelajaa.V
open Go.RowKit Go.Maps
open M (Cl cmpC vC)

set_option maxHeartbeats 16000000 in
set_option maxRecDepth 100000 in
theorem own_walk {w : World} {v0 v2 v3 : Value} {vs : List Vw} {xs ys : List Sf} (src : Int) (hv : Vs w v0 vs) (h2 : Ss w v2 xs) (h3 : Ss w v3 ys) : Calls Try.prog 7 #[v0, .int .i64 src, v2, v3] w fun e w' => e = .returned (.bool true) ∧ Fr w w' (fun _ => False) := by
  have HV := hid hv
  have HX := hid h2
  have HY := hid h3
  obtain ⟨ao, cap, rfl, hvl, _⟩ := id hv
  obtain ⟨bo, cap2, rfl, hxl, _⟩ := id h2
  obtain ⟨co, cap3, rfl, hyl, _⟩ := id h3
  clear hv h2 h3
  by_cases hok : rightVs vs = true ∧ (1 ≤ src ∧ src ≤ 8)
  case neg =>
    have HNE : Hid (∃ en : Int, en ≠ 0 ∧ ∀ W : World, Fr w W (fun _ => False) → Calls Try.prog 11 #[.slice ao vs.length cap, .int .i64 src] W fun e w' => e = .returned (.tuple #[.pointer none, .int .i64 en]) ∧ Fr W w' (fun _ => False)) := by
      rcases hr : rightVs vs with _ | _
      · exact ⟨24, by decide, fun W hW => onew_bad (HV.out.fr hW (fun _ _ _ _ _ h => h)) hr src⟩
      · exact ⟨1, by decide, fun W hW => onew_arg (HV.out.fr hW (fun _ _ _ _ _ h => h)) hr (fun h => hok ⟨hr, h⟩)⟩
    obtain ⟨en, hen, hne⟩ := HNE.out
    have HN := hid hne
    have q0 : (en != 0) = true := by simpa using hen
    have q1 : (en == 0) = false := by simpa using hen
    clear HNE hne hok hen
    go_enter Try.func7, Try.ntmps7
    go_wp2_with fail
    refine (known_any _).mono ?_
    rintro e w1 ⟨rfl, hf⟩
    have HF := hid hf
    clear hf
    go_wp2_with fail
    refine (HN.out _ HF.out).mono ?_
    rintro e w2 ⟨rfl, hf⟩
    have HF2 := hid (HF.out.trans hf)
    clear hf
    go_wp2_with fail
    refine (HN.out _ HF2.out).mono ?_
    rintro e w3 ⟨rfl, hf⟩
    have HF3 := hid (HF2.out.trans hf)
    clear hf
    go_wp2_with fail
    refine (HN.out _ HF3.out).mono ?_
    rintro e w4 ⟨rfl, hf⟩
    have HF4 := hid (HF3.out.trans hf)
    clear hf
    go_wp2_with fail
    go_ret
    exact ⟨rfl, HF4.out⟩
  case pos =>
    obtain ⟨hr, hn1, hn8⟩ := hok
    obtain ⟨n, rfl⟩ : ∃ n : Nat, src = (n : Int) := ⟨src.toNat, by omega⟩
    have h1 : 1 ≤ n := by omega
    have h8 : n ≤ 8 := by omega
    have HN := hid (fun (W : World) (hW : Fr w W (fun _ => False)) => onew_ok (HV.out.fr hW (fun _ _ _ _ _ h => h)) hr h1 h8)
    clear hr hn1 hn8
    go_enter Try.func7, Try.ntmps7
    go_wp2_with fail
    refine (known_any _).mono ?_
    rintro e w1 ⟨rfl, hf⟩
    have HF := hid hf
    clear hf
    go_wp2_with fail
    refine (HN.out _ HF.out).mono ?_
    rintro e w2 ⟨x, rfl, hop, hb, hf⟩
    have HOx := hid hop
    have HBx := hid hb
    have HGx := hid hf
    have HFx := hid (HF.out.trans hf)
    clear hop hb hf
    go_wp2_with fail
    refine (HN.out _ HFx.out).mono ?_
    rintro e w3 ⟨y, rfl, hop, hb, hf⟩
    have HOy := hid hop
    have HBy := hid hb
    have HGy := hid hf
    have HFy := hid (HFx.out.trans hf)
    clear hop hb hf
    go_wp2_with fail
    refine (HN.out _ HFy.out).mono ?_
    rintro e w4 ⟨z, rfl, hop, hb, hf⟩
    have HOz := hid hop
    have HBz := hid hb
    have HGz := hid hf
    have HFz := hid (HFy.out.trans hf)
    clear hop hb hf
    obtain ⟨s0, hs0⟩ : ∃ s0 : Os2, s0 = ⟨List.replicate n noM, []⟩ := ⟨_, rfl⟩
    have HL0 : Hid (s0.L.length = 0) := by subst hs0; rfl
    have HP : Hid (O3 w x y z vs s0 s0 s0 w4) := by
      have hz := HF.out.size
      have hz2 := HFx.out.size
      have hz3 := HFy.out.size
      obtain ⟨b1, b2, b3, b4, b5⟩ := HBx.out
      obtain ⟨c1, c2, c3, c4, c5⟩ := HBy.out
      obtain ⟨d1, d2, d3, d4, d5⟩ := HBz.out
      have ha : Op w2 x vs s0.ms s0.L := by subst hs0; exact HOx.out
      have hb : Op w3 y vs s0.ms s0.L := by subst hs0; exact HOy.out
      have hc : Op w4 z vs s0.ms s0.L := by subst hs0; exact HOz.out
      have hg := HGy.out.size
      refine ⟨(ha.step HGy.out).step HGz.out, hb.step HGz.out, hc, ⟨w2.heap.size, w3.heap.size, ha.bel, HBy.out, hb.bel, HBz.out, hg⟩, ?_, ?_, ?_, HFz.out⟩
      all_goals
        unfold Beh
        omega
    clear HOx HOy HOz HBx HBy HBz HGx HGy HGz HF HFx HFy HFz HN hs0 HV hvl
    obtain ⟨NN, hNN⟩ : ∃ NN, NN = min (max xs.length ys.length) 150 := ⟨_, rfl⟩
    have HNN := hid hNN
    clear hNN
    go_wp2_with fail
    go_loopg [15] NN (fun q s15 wx => ∃ (i : Nat) (s1 s2 : Os2), s15 = .int .i64 (i : Int) ∧ Hid (i + q = NN) ∧ Hid (s1.L.length ≤ i * 300) ∧ Hid (s2.L.length ≤ i * 300) ∧ Hid (O3 w x y z vs s1 s2 s1 wx))
    case atStart => exact ⟨0, s0, s0, rfl, by show _ = _; omega, by show _ ≤ _; rw [HL0.out]; omega, by show _ ≤ _; rw [HL0.out]; omega, HP⟩
    case round =>
      obtain ⟨i, s1, s2, rfl, HG, HL1, HL2, HP1⟩ := hrel
      clear HP HL0
      cases gk with
      | zero =>
        have HL1' : Hid (s1.L.length ≤ 1000000000) := by have := HL1.out; have := HG.out; have := HNN.out; show _ ≤ _; omega
        have HLA := hid (HP1.out.liveA HL1'.out)
        have hend : (¬ i < xs.length ∧ ¬ i < ys.length) ∨ ((i < xs.length ∨ i < ys.length) ∧ ¬ i < 150) := by have := HG.out; have := HNN.out; omega
        rcases hend with ⟨g1, g2⟩ | ⟨g1, g2⟩
        · have t1 : ¬ (i : Int) < (xs.length : Int) := by omega
          have t2 : ¬ (i : Int) < (ys.length : Int) := by omega
          clear g1 g2
          go_wp2_with fail
          refine HLA.out.mono ?_
          rintro e w5 ⟨u5, rfl, hp5, hk5, hf5⟩
          have HP5 := hid hp5
          have HK5 := hid (hk5.ks (by have := HL1'.out; omega))
          obtain ⟨a5, c5, rfl⟩ := hk5.shape
          clear hp5 hk5 hf5
          go_wp2_with fail
          refine (HP5.out.liveC HL1'.out).mono ?_
          rintro e w6 ⟨u6, rfl, hp6, hk6, hf6⟩
          have HP6 := hid hp6
          have HK6 := hid (hk6.ks (by have := HL1'.out; omega))
          have HK7 := hid (HK5.out.step hf6)
          obtain ⟨a6, c6, rfl⟩ := hk6.shape
          clear hp6 hk6 hf6
          go_wp2_with fail
          refine (ksame_true HK7.out HK6.out).mono ?_
          rintro e w7 ⟨rfl, hf7⟩
          have HP7 := hid (HP6.out.step hf7)
          clear hf7
          go_wp2_with fail
          refine (oleast_any HP7.out.a).mono ?_
          rintro e w8 ⟨rfl, hf8⟩
          have HP8 := hid (HP7.out.step hf8)
          clear hf8
          go_wp2_with fail
          refine (oleast_any HP8.out.c).mono ?_
          rintro e w9 ⟨rfl, hf9⟩
          have HP9 := hid (HP8.out.step hf9)
          clear hf9
          generalize leastL s1.ms = lm at *
          go_wp2_with fail
          go_ret
          exact ⟨rfl, HP9.out.fr⟩
        · have t3 : ¬ (i : Int) < 150 := by omega
          by_cases g3 : i < xs.length
          · have t1 : (i : Int) < (xs.length : Int) := by omega
            clear g1 g2
            go_wp2_with fail
            refine HLA.out.mono ?_
            rintro e w5 ⟨u5, rfl, hp5, hk5, hf5⟩
            have HP5 := hid hp5
            have HK5 := hid (hk5.ks (by have := HL1'.out; omega))
            obtain ⟨a5, c5, rfl⟩ := hk5.shape
            clear hp5 hk5 hf5
            go_wp2_with fail
            refine (HP5.out.liveC HL1'.out).mono ?_
            rintro e w6 ⟨u6, rfl, hp6, hk6, hf6⟩
            have HP6 := hid hp6
            have HK6 := hid (hk6.ks (by have := HL1'.out; omega))
            have HK7 := hid (HK5.out.step hf6)
            obtain ⟨a6, c6, rfl⟩ := hk6.shape
            clear hp6 hk6 hf6
            go_wp2_with fail
            refine (ksame_true HK7.out HK6.out).mono ?_
            rintro e w7 ⟨rfl, hf7⟩
            have HP7 := hid (HP6.out.step hf7)
            clear hf7
            go_wp2_with fail
            refine (oleast_any HP7.out.a).mono ?_
            rintro e w8 ⟨rfl, hf8⟩
            have HP8 := hid (HP7.out.step hf8)
            clear hf8
            go_wp2_with fail
            refine (oleast_any HP8.out.c).mono ?_
            rintro e w9 ⟨rfl, hf9⟩
            have HP9 := hid (HP8.out.step hf9)
            clear hf9
            generalize leastL s1.ms = lm at *
            go_wp2_with fail
            go_ret
            exact ⟨rfl, HP9.out.fr⟩
          · have t1 : ¬ (i : Int) < (xs.length : Int) := by omega
            have t2 : (i : Int) < (ys.length : Int) := by omega
            clear g1 g2
            go_wp2_with fail
            refine HLA.out.mono ?_
            rintro e w5 ⟨u5, rfl, hp5, hk5, hf5⟩
            have HP5 := hid hp5
            have HK5 := hid (hk5.ks (by have := HL1'.out; omega))
            obtain ⟨a5, c5, rfl⟩ := hk5.shape
            clear hp5 hk5 hf5
            go_wp2_with fail
            refine (HP5.out.liveC HL1'.out).mono ?_
            rintro e w6 ⟨u6, rfl, hp6, hk6, hf6⟩
            have HP6 := hid hp6
            have HK6 := hid (hk6.ks (by have := HL1'.out; omega))
            have HK7 := hid (HK5.out.step hf6)
            obtain ⟨a6, c6, rfl⟩ := hk6.shape
            clear hp6 hk6 hf6
            go_wp2_with fail
            refine (ksame_true HK7.out HK6.out).mono ?_
            rintro e w7 ⟨rfl, hf7⟩
            have HP7 := hid (HP6.out.step hf7)
            clear hf7
            go_wp2_with fail
            refine (oleast_any HP7.out.a).mono ?_
            rintro e w8 ⟨rfl, hf8⟩
            have HP8 := hid (HP7.out.step hf8)
            clear hf8
            go_wp2_with fail
            refine (oleast_any HP8.out.c).mono ?_
            rintro e w9 ⟨rfl, hf9⟩
            have HP9 := hid (HP8.out.step hf9)
            clear hf9
            generalize leastL s1.ms = lm at *
            go_wp2_with fail
            go_ret
            exact ⟨rfl, HP9.out.fr⟩
      | succ q =>
        have hi150 : i < 150 := by have := HG.out; have := HNN.out; omega
        have t3 : (i : Int) < 150 := by omega
        by_cases g1 : i < xs.length
        · have t1 : (i : Int) < (xs.length : Int) := by omega
          obtain ⟨b, off, rfl, _⟩ := (HX.out.step HP1.out.fr).at g1
          have HXU := hid (fun (W : World) (hW : Fr w W (fun _ => False)) => HX.out.use g1 hW)
          obtain ⟨y1, hy1⟩ : ∃ y1, y1 = xs[i]?.getD default := ⟨_, rfl⟩
          rw [← hy1] at HXU
          have HKX := hid ((HXU.out _ HP1.out.fr).2.1)
          have HCX := hid ((HXU.out _ HP1.out.fr).2.2.1)
          obtain ⟨yk, ys', ykey, yt, yval, ycv, ycs⟩ := y1
          obtain ⟨ya, ycap, hyc, _⟩ := id HKX.out; dsimp only at hyc; subst hyc
          have HCL : Hid (∀ W : World, Fr w W (fun _ => False) → Hid (Fr w W (fun _ => False)) ∧ W.cell? ⟨b, off + i * 6 + 2, none⟩ = some (.string ykey) ∧ W.cell? ⟨b, off + i * 6 + 3, none⟩ = some (.int .i64 yt) ∧ b < W.heap.size) := fun W hW => ⟨hW, (HXU.out W hW).1.2.2.1, (HXU.out W hW).1.2.2.2.1, (HXU.out W hW).2.2.2⟩
          have HS1 := hid (doS_len HP1.out.a.okv HP1.out.a.four s1 ⟨yk, ys', ykey, yt, yval, .slice ya ycs.length ycap, ycs⟩)
          have HG1 := hid (goS_len (vs := vs) s1 ⟨yk, ys', ykey, yt, yval, .slice ya ycs.length ycap, ycs⟩)
          have HB0 := hid HP1.out.be3
          have HN0 := hid HP1.out.fr.size
          have HRI := hid (fun (W : World) (hW : O3 w x y z vs s1 s2 s1 W) (hm : wr.heap.size ≤ W.heap.size) => hW.takeM hm ykey yt)
          have HDA := hid (fun (W : World) (hW : O3 w x y z vs s1 s2 s1 W) => hW.doA (q := ⟨yk, ys', ykey, yt, yval, .slice ya ycs.length ycap, ycs⟩) (by have := HL1.out; have := HG.out; have := HNN.out; omega) (HXU.out W hW.fr).2.1 HCX.out)
          have HDC := hid (fun (W : World) s9 (hW : O3 w x y z vs s9 s2 s1 W) => hW.doC (q := ⟨yk, ys', ykey, yt, yval, .slice ya ycs.length ycap, ycs⟩) (by have := HL1.out; have := HG.out; have := HNN.out; omega) (HXU.out W hW.fr).2.1 HCX.out)
          unfold sfV at HDA HDC
          generalize doS vs s1 ⟨yk, ys', ykey, yt, yval, .slice ya ycs.length ycap, ycs⟩ = s1' at *
          generalize goS vs s1 ⟨yk, ys', ykey, yt, yval, .slice ya ycs.length ycap, ycs⟩ = G1 at *
          clear hy1
          dsimp only at *
          go_upto_region 12 with (fail)
          have HSS := hid HP1.out.fr
          obtain ⟨_, hc2, hc3, hbl⟩ := HCL.out _ HP1.out.fr
          go_region_held3 (fun W' => Hid (Fr w W' (fun _ => False)) ∧ W'.cell? ⟨b, off + i * 6 + 2, none⟩ = some (.string ykey) ∧ W'.cell? ⟨b, off + i * 6 + 3, none⟩ = some (.int .i64 yt) ∧ b < W'.heap.size)
            ((refine HCL.out _ ?_; first | exact HSS.out | exact HSS.out.drew | exact HSS.out.drew.drew))
            ((go_at_call 27; refine (HRI.out _ (by first | exact HP1.out | exact HP1.out.drew) (by first | exact Nat.le_refl _ | simp)).mono ?_; rintro e w9 ⟨ta, tn, tb, tk, rfl, hp9, htn, htl⟩; have HP2 := hid hp9; have HTN := hid htn; have HTL := hid htl; clear hp9 htn htl HSS; have HSS := hid HP2.out.1.fr))
          clear hc2 hc3 hbl
          have HSP := hid (fun (W : World) (hW : O3M w x y z vs s1 s2 s1 (.slice ta tn tn) tn W) => hW.1.spoil HB0.out HN0.out hW.2 (by have := HTN.out; omega) HTL.out)
          clear HTN HTL
          go_wp2_with fail
          refine (HSP.out _ (by first | exact HP2.out | exact HP2.out.drew)).mono ?_
          rintro e w10 ⟨rfl, hp10⟩
          have HP3 := hid hp10
          clear hp10 HSP HP2 HSS HRI
          obtain ⟨⟨d0, d1, d2, d3, d4, d5⟩, _, _, dl⟩ := HXU.out _ HP3.out.fr
          dsimp only at d0 d1 d2 d3 d4 d5
          go_wp2_with fail
          refine (HDA.out _ HP3.out).mono ?_
          rintro e w11 ⟨ux, rfl, hp11, hk11, hf11⟩
          have HP4 := hid hp11
          have HZ11 := hid hf11.size
          have HK4 := hid hk11
          have HB4 := hid HP3.out.be3
          have HN4 := hid HP3.out.fr.size
          obtain ⟨xa, xc, rfl⟩ := hk11.shape
          clear d0 d1 d2 d3 d4 d5 dl hp11 hk11 hf11 HDA
          obtain ⟨⟨d0, d1, d2, d3, d4, d5⟩, _, _, dl⟩ := HXU.out _ HP4.out.fr
          dsimp only at d0 d1 d2 d3 d4 d5
          go_wp2_with fail
          refine (HDC.out _ _ HP4.out).mono ?_
          rintro e w12 ⟨uy, rfl, hp12, hk12, hf12⟩
          have HP5 := hid hp12
          have HZ12 := hid hf12.size
          have HK5 := hid (hk12.ks (by have := HG1.out; have := HL1.out; have := HG.out; have := HNN.out; omega))
          have HK6 : Hid (Kw w10.heap.size w12 (.slice xa G1.length xc) G1) := HK4.out.fr hf12 (fun k hk h => by
            have h1 := HK4.out.beh k hk
            obtain ⟨_, _, z1, z2, z3, z4, z5⟩ := HB4.out
            omega)
          obtain ⟨ya2, yc2, rfl⟩ := hk12.shape
          clear d0 d1 d2 d3 d4 d5 dl hp12 hk12 hf12 HDC HK4
          go_wp2_with fail
          refine (ksame_true (HK6.out.ks (by have := HG1.out; have := HL1.out; have := HG.out; have := HNN.out; omega)) HK5.out).mono ?_
          rintro e w13 ⟨rfl, hf13⟩
          have HP6 := hid (HP5.out.step hf13)
          have HM6 := hid ((HK6.out.fr hf13 (fun _ _ h => h)).mine (Nat.le_trans HZ11.out (Nat.le_trans HZ12.out hf13.size)))
          have HSX := hid (HP6.out.spoil HB4.out HN4.out HM6.out (by have := HG1.out; have := HL1.out; have := HG.out; have := HNN.out; omega) (fun j hj => HK6.out.beh j hj))
          clear hf13 HK6 HK5 HM6 HB4 HN4 HZ11 HZ12 HP5 HP4 HP3
          go_wp2_with fail
          refine HSX.out.mono ?_
          rintro e w14 ⟨rfl, hp14⟩
          have HP7 := hid hp14
          clear hp14 HSX HP6
          have HL1' : Hid (s1'.L.length ≤ 1000000) := by have := HL1.out; have := HS1.out; have := HG.out; have := HNN.out; show _ ≤ _; omega
          have HB7 := hid HP7.out.be3
          have HN7 := hid HP7.out.fr.size
          go_wp2_with fail
          refine (HP7.out.liveA (by have := HL1'.out; omega)).mono ?_
          rintro e w15 ⟨ul, rfl, hp15, hk15, hf15⟩
          have HP8 := hid hp15
          obtain ⟨la, lc, rfl⟩ := hk15.shape
          have HSL := hid (hp15.spoil HB7.out HN7.out (hk15.mine hf15.size) HL1'.out hk15.beh)
          clear hp15 hk15 hf15 HP7 HB7 HN7
          go_wp2_with fail
          refine HSL.out.mono ?_
          rintro e w16 ⟨rfl, hp16⟩
          have HPT := hid hp16
          clear hp16 HSL HP8
          by_cases g2 : i < ys.length
          · have t2 : (i : Int) < (ys.length : Int) := by omega
            obtain ⟨b2, off2, rfl, _⟩ := (HY.out.step HPT.out.fr).at g2
            have HYU := hid (fun (W : World) (hW : Fr w W (fun _ => False)) => HY.out.use g2 hW)
            obtain ⟨z1, hz1⟩ : ∃ z1, z1 = ys[i]?.getD default := ⟨_, rfl⟩
            rw [← hz1] at HYU
            have HKY := hid ((HYU.out _ HPT.out.fr).2.1)
            have HCY := hid ((HYU.out _ HPT.out.fr).2.2.1)
            obtain ⟨zk, zs', zkey, zt, zval, zcv, zcs⟩ := z1
            obtain ⟨za, zcap, hzc, _⟩ := id HKY.out
            dsimp only at hzc
            subst hzc
            have HS2 := hid (doS_len HPT.out.b.okv HPT.out.b.four s2 ⟨zk, zs', zkey, zt, zval, .slice za zcs.length zcap, zcs⟩)
            have HDB := hid (HPT.out.doB (q := ⟨zk, zs', zkey, zt, zval, .slice za zcs.length zcap, zcs⟩) (by have := HL2.out; have := HG.out; have := HNN.out; omega) HKY.out HCY.out)
            unfold sfV at HDB
            generalize doS vs s2 ⟨zk, zs', zkey, zt, zval, .slice za zcs.length zcap, zcs⟩ = s2' at *
            clear hz1
            dsimp only at *
            obtain ⟨⟨d0, d1, d2, d3, d4, d5⟩, _, _, dl⟩ := HYU.out _ HPT.out.fr
            dsimp only at d0 d1 d2 d3 d4 d5
            go_wp2_with fail
            refine HDB.out.mono ?_
            rintro e w21 ⟨uz, rfl, hp21, hk21⟩
            have HP21 := hid hp21
            obtain ⟨za2, zc2, rfl⟩ := hk21.shape
            clear hp21 hk21 d0 d1 d2 d3 d4 d5 dl
            go_wp2_with fail
            go_roundg q
            case measure => omega
            case rel => exact ⟨i + 1, s1', s2', by go_num, by have := HG.out; show _ = _; omega, by have := HL1.out; have := HS1.out; show _ ≤ _; omega, by have := HL2.out; have := HS2.out; show _ ≤ _; omega, HP21⟩
          · have t2 : ¬ (i : Int) < (ys.length : Int) := by omega
            go_wp2_with fail
            go_roundg q
            case measure => omega
            case rel => exact ⟨i + 1, s1', s2, by go_num, by have := HG.out; show _ = _; omega, by have := HL1.out; have := HS1.out; show _ ≤ _; omega, by have := HL2.out; show _ ≤ _; omega, HPT⟩
        · have t1 : ¬ (i : Int) < (xs.length : Int) := by omega
          have g2 : i < ys.length := by have := HG.out; have := HNN.out; omega
          have t2 : (i : Int) < (ys.length : Int) := by omega
          have HPT := HP1
          clear HP1
          obtain ⟨b2, off2, rfl, _⟩ := (HY.out.step HPT.out.fr).at g2
          have HYU := hid (fun (W : World) (hW : Fr w W (fun _ => False)) => HY.out.use g2 hW)
          obtain ⟨z1, hz1⟩ : ∃ z1, z1 = ys[i]?.getD default := ⟨_, rfl⟩
          rw [← hz1] at HYU
          have HKY := hid ((HYU.out _ HPT.out.fr).2.1)
          have HCY := hid ((HYU.out _ HPT.out.fr).2.2.1)
          obtain ⟨zk, zs', zkey, zt, zval, zcv, zcs⟩ := z1
          obtain ⟨za, zcap, hzc, _⟩ := id HKY.out
          dsimp only at hzc
          subst hzc
          have HS2 := hid (doS_len HPT.out.b.okv HPT.out.b.four s2 ⟨zk, zs', zkey, zt, zval, .slice za zcs.length zcap, zcs⟩)
          have HDB := hid (HPT.out.doB (q := ⟨zk, zs', zkey, zt, zval, .slice za zcs.length zcap, zcs⟩) (by have := HL2.out; have := HG.out; have := HNN.out; omega) HKY.out HCY.out)
          unfold sfV at HDB
          generalize doS vs s2 ⟨zk, zs', zkey, zt, zval, .slice za zcs.length zcap, zcs⟩ = s2' at *
          clear hz1
          dsimp only at *
          obtain ⟨⟨d0, d1, d2, d3, d4, d5⟩, _, _, dl⟩ := HYU.out _ HPT.out.fr
          dsimp only at d0 d1 d2 d3 d4 d5
          go_wp2_with fail
          refine HDB.out.mono ?_
          rintro e w21 ⟨uz, rfl, hp21, hk21⟩
          have HP21 := hid hp21
          obtain ⟨za2, zc2, rfl⟩ := hk21.shape
          clear hp21 hk21 d0 d1 d2 d3 d4 d5 dl
          go_wp2_with fail
          go_roundg q
          case measure => omega
          case rel => exact ⟨i + 1, s1, s2', by go_num, by have := HG.out; show _ = _; omega, by have := HL1.out; show _ ≤ _; omega, by have := HL2.out; have := HS2.out; show _ ≤ _; omega, HP21⟩
end Go.Proofs.Ytglkjhpkeelajaa.V
