/- MarkOpens: the walk. -/
import Derived.Test.YtfmhdpenodmblaaQROpen2
import Derived.Test.YtfmhdpenodmblaaQPlays
namespace Go.Proofs.Ytfmhdpenodmblaa
open Go.RowKit

set_option maxHeartbeats 8000000 in
set_option maxRecDepth 100000 in
theorem opens_walk {w : World} {v u1 u2 : Value} {rs : List Rq} {vs : List Vw} {ts : List Int} (src : Int) (hrs : Rs w v rs) (hvs : Vs w u1 vs ∧ Nz u1) (hts : Nu w u2 ts) : Calls Try.prog 5 #[.int .i64 src, v, u1, u2] w fun e w' => e = .returned (.bool true) ∧ Fr w w' (fun _ => False) := by
  have HRS := hid hrs
  have HVS := hid hvs.1
  have HNZ := hid hvs.2
  have HTS := hid hts
  obtain ⟨ao, cap0, rfl, hrl, _⟩ := id hrs
  obtain ⟨bo, cap1, rfl, hvl, _⟩ := id hvs.1
  obtain ⟨co, cap2, rfl, htl, _⟩ := id hts
  clear hrs hvs hts
  by_cases h100 : 100 < vs.length
  · have u1 : (100 : Int) < (vs.length : Int) := by omega
    clear h100
    go_enter Try.func5, Try.ntmps5
    go_wp2_with fail
    refine (head_any _).mono ?_
    rintro e w6 ⟨rfl, hf6⟩
    have HF6 := hid hf6
    clear hf6
    go_wp2_with fail
    go_ret
    exact ⟨rfl, HF6.out⟩
  · have u1 : ¬ (100 : Int) < (vs.length : Int) := by omega
    have h100' : vs.length ≤ 100 := by omega
    clear h100
    by_cases hok : 1 ≤ src ∧ src ≤ 8
    · obtain ⟨n, rfl⟩ : ∃ n : Nat, src = (n : Int) := ⟨src.toNat, by omega⟩
      have hn1 : 1 ≤ n := by omega
      have hn8 : n ≤ 8 := by omega
      clear hok
      have HN := hid (fun W : World => new_ok hn1 hn8 W)
      have HRN := hid (fun W : World => rnew_ok hn1 hn8 W)
      go_enter Try.func5, Try.ntmps5
      go_wp2_with fail
      refine (HN.out _).mono ?_
      rintro e w1 ⟨B, g, rfl, hK, hB, hg, hf⟩
      have HK := hid hK
      have HF := hid hf
      have HBG := hid (And.intro hB hg)
      clear hK hf hB hg HN
      go_wp2_with fail
      refine (HRN.out _).mono ?_
      rintro e w2 ⟨h, cap, rfl, hR, hf2⟩
      have HP : Hid (PB w B g (w1.heap.size + 1) w1.heap.size h cap (List.replicate n noM) (List.replicate n noM) w2) := by
        have hz := HF.out.size
        have h1 := HK.out.lt
        have h2 := hR.lt
        exact ⟨HK.out.fr hf2 (fun h => h) (fun h => h), hR, by omega, ⟨HBG.out.1, HBG.out.2, by omega, by omega⟩, HF.out.trans hf2⟩
      clear hR hf2 HK HF HBG HRN
      generalize w1.heap.size + 1 = base at *
      generalize w1.heap.size = C at *
      go_wp2_with fail
      go_loopg [13] (min rs.length 50) (fun k s13 wx => ∃ i : Nat, ∃ ms : List Int, s13 = .int .i64 (i : Int) ∧ Hid (i + k = min rs.length 50) ∧ Hid (PB w B g base C h cap ms ms wx))
      case atStart => exact ⟨0, _, rfl, by show _ = _; omega, HP⟩
      case round =>
        obtain ⟨i, ms, rfl, HG, HP1⟩ := hrel
        clear HP
        cases gk with
        | succ k =>
          have hi : i < rs.length := by have := HG.out; omega
          have t1 : (i : Int) < (rs.length : Int) := by omega
          have t2 : (i : Int) < 50 := by have := HG.out; omega
          obtain ⟨b, off, rfl, _, _⟩ := (HRS.out.fr HP1.out.fr).at hi
          have HCL : Hid (∀ W : World, Fr w W (fun _ => False) → W.cell? ⟨b, off + i * 2, none⟩ = some (.int .i64 (rs.getD i rq0).s) ∧ W.cell? ⟨b, off + i * 2 + 1, none⟩ = some (.int .i64 (rs.getD i rq0).t) ∧ b < W.heap.size) := fun W hW => by
            obtain ⟨b', off', e, h1, h2⟩ := (HRS.out.fr hW).at hi
            simp only [Option.some.injEq, Addr.mk.injEq, and_true] at e
            obtain ⟨rfl, rfl⟩ := e
            exact ⟨h1, h2, World.block_lt_of_cell? W _ h1⟩
          have HI := hid hi
          clear hi
          generalize (rs.getD i rq0).s = sx at *
          generalize (rs.getD i rq0).t = tx at *
          have HRI := hid (fun (W : World) (hW : PB w B g base C h cap ms ms W) => rise_any hW.km sx tx)
          have HRR := hid (fun (W : World) (hW : PB w B g base C h cap (riseS ms sx tx) ms W) => rrise_any hW.rm sx tx)
          generalize riseR ms sx tx = rr at *
          generalize riseS ms sx tx = ms' at *
          go_upto_region 10 with (fail)
          have HS := hid HP1.out.fr
          go_region_held3 (fun W' => Hid (Fr w W' (fun _ => False)) ∧ W'.cell? ⟨b, off + i * 2, none⟩ = some (.int .i64 sx) ∧ W'.cell? ⟨b, off + i * 2 + 1, none⟩ = some (.int .i64 tx) ∧ b < W'.heap.size)
            ((refine (fun hh => ⟨hh, HCL.out _ hh⟩ : Fr w _ (fun _ => False) → _) ?_; first | exact HS.out | exact HS.out.drew | exact HS.out.drew.drew))
            ((go_at_call 13; refine (HRI.out _ (by first | exact HP1.out | exact HP1.out.drew)).mono ?_; rintro e w9 ⟨rfl, hk9, hf9⟩; have HP2 := hid ((by first | exact HP1.out | exact HP1.out.drew : PB w B g base C h cap ms ms _).rise1 hk9 hf9); clear hk9 hf9 HS; have HS := hid HP2.out.fr))
          clear HP1 HRI
          go_upto_region 11 with (fail)
          go_region_held3 (fun W' => Hid (Fr w W' (fun _ => False)) ∧ W'.cell? ⟨b, off + i * 2, none⟩ = some (.int .i64 sx) ∧ W'.cell? ⟨b, off + i * 2 + 1, none⟩ = some (.int .i64 tx) ∧ b < W'.heap.size)
            ((refine (fun hh => ⟨hh, HCL.out _ hh⟩ : Fr w _ (fun _ => False) → _) ?_; first | exact HS.out | exact HS.out.drew | exact HS.out.drew.drew))
            ((go_at_call 14; refine (HRR.out _ (by first | exact HP2.out | exact HP2.out.drew | exact HP2.out.drew.drew)).mono ?_; rintro e w9 ⟨rfl, hk9, hf9⟩; have HP3 := hid ((by first | exact HP2.out | exact HP2.out.drew | exact HP2.out.drew.drew : PB w B g base C h cap ms' ms _).rise2 hk9 hf9); clear hk9 hf9 HS; have HS := hid HP3.out.fr))
          go_wp2_with fail
          go_roundg k
          case measure => omega
          case rel => exact ⟨i + 1, ms', by go_num, by have := HG.out; show _ = _; omega, by first | exact HP3 | exact hid HP3.out.drew⟩
        | zero =>
          have hc : ¬ (i : Int) < (rs.length : Int) ∨ ((i : Int) < (rs.length : Int) ∧ ¬ (i : Int) < 50) := by have := HG.out; omega
          have HL := hid (fun (W : World) (hW : Fr w W (fun _ => False)) => lend_any (HVS.out.fr hW (fun _ _ _ _ _ h => h)) HNZ.out h100')
          have HO1 := hid (fun (W : World) (hW : PB w B g base C h cap ms ms W) (u : Value) (hu : Vs W u vs) (t : Int) => mopen_any hW.km hu t)
          have HO2 := hid (fun (W : World) (hW : PB w B g base C h cap ms ms W) (t : Int) => ropen_any hW.rm (HVS.out.fr hW.fr (fun _ _ _ _ _ h => h)) t)
          generalize leastL ms = LL at *
          clear HG
          rcases hc with t1 | ⟨t1, t2⟩
          all_goals
            go_wp2_with fail
            generalize wr = W0 at *
            go_loopg [14, 15, 16, 17, 18, 19, 20, 21] (min ts.length 30) (fun k s14 s15 s16 s17 s18 s19 s20 s21 wx => ∃ i : Nat, s14 = .int .i64 (i : Int) ∧ Hid (i + k = min ts.length 30) ∧ Hid (PB w B g base C h cap ms ms wx))
            case atStart => exact ⟨0, rfl, by show _ = _; omega, HP1⟩
            case round =>
              obtain ⟨i, rfl, HG, HP7⟩ := hrel
              clear HP1
              cases gk with
              | zero =>
                have hc : ¬ (i : Int) < (ts.length : Int) ∨ ((i : Int) < (ts.length : Int) ∧ ¬ (i : Int) < 30) := by have := HG.out; omega
                rcases hc with t3 | ⟨t3, t4⟩
                all_goals
                  go_wp2_with fail
                  refine (head_any _).mono ?_
                  rintro e w6 ⟨rfl, hf6⟩
                  have HS6 := hid (HP7.out.step hf6)
                  clear hf6
                  go_wp2_with fail
                  go_ret
                  exact ⟨rfl, HS6.out.fr⟩
              | succ k =>
                have hi : i < ts.length := by have := HG.out; omega
                have t3 : (i : Int) < (ts.length : Int) := by omega
                have t4 : (i : Int) < 30 := by have := HG.out; omega
                obtain ⟨b, off, rfl, c0, _⟩ := (HTS.out.fr HP7.out.fr).at hi
                have HCL : Hid (∀ W : World, Fr w W (fun _ => False) → W.cell? ⟨b, off + i, none⟩ = some (.int .i64 (ts.getD i 0)) ∧ b < W.heap.size) := fun W hW => by
                  obtain ⟨b', off', e, h1, h2⟩ := (HTS.out.fr hW).at hi
                  simp only [Option.some.injEq, Addr.mk.injEq, and_true] at e
                  obtain ⟨rfl, rfl⟩ := e
                  exact ⟨h1, World.block_lt_of_cell? W _ h1⟩
                generalize ts.getD i 0 = tt at *
                have HI := hid hi
                clear hi c0
                have HLEN := hid (opnL_len vs LL tt)
                go_wp2_with fail
                refine (HL.out _ HP7.out.fr).mono ?_
                rintro e w3 ⟨um, rfl, hln, hf3⟩
                have HP8 := hid (HP7.out.step hf3)
                have HLN := hid hln
                have HUV := hid (hln.vs h100')
                obtain ⟨gm, cm, rm, rfl, _⟩ := hln.at'
                clear hln hf3 HP7
                obtain ⟨c0, hbl⟩ := HCL.out _ HP8.out.fr
                go_wp2_with fail
                refine (HO1.out _ HP8.out _ HUV.out tt).mono ?_
                rintro e w4 ⟨x1, rfl, hco1, hf4⟩
                have HP9 := hid (HP8.out.step hf4)
                have HC1 := hid (hco1.cr HLEN.out)
                have HLN2 := hid (HLN.out.fr hf4 (fun _ _ h => h))
                obtain ⟨ao1, rfl⟩ := hco1.shape
                clear hco1 hf4 HP8 c0 hbl HLN HUV
                obtain ⟨c0, hbl⟩ := HCL.out _ HP9.out.fr
                go_wp2_with fail
                refine (HO2.out _ HP9.out tt).mono ?_
                rintro e w5 ⟨x2, rfl, hcr2, hf5⟩
                have HPa := hid (HP9.out.step hf5)
                have HC2 := hid hcr2
                have HC3 := hid (HC1.out.fr hf5)
                have HLN3 := hid (HLN2.out.fr hf5 (fun _ _ h => h))
                obtain ⟨ao2, cap2', rfl, _⟩ := hcr2
                clear hf5 HP9 c0 hbl HC1 HLN2
                have HSM := hid (same_true HC3.out HC2.out)
                generalize opnB vs LL tt = ob at *
                generalize chkN vs tt = oc at *
                generalize (opnL vs LL tt).length = ol at *
                go_wp2_with fail
                refine HSM.out.mono ?_
                rintro e w6 ⟨rfl, hf6⟩
                have HPb := hid (HPa.out.step hf6)
                have HKP := hid (kept_any (HLN3.out.fr hf6 (fun _ _ h => h)) (HVS.out.fr HPb.out.fr (fun _ _ _ _ _ h => h)) h100')
                clear hf6 HPa HSM HC2 HC3 HLN3
                go_wp2_with fail
                refine HKP.out.mono ?_
                rintro e w7 ⟨rfl, hf7⟩
                have HPc := hid (HPb.out.step hf7)
                clear hf7 HPb HKP
                go_wp2_with fail
                go_roundg k
                case measure => omega
                case rel => exact ⟨i + 1, by go_num, by have := HG.out; show _ = _; omega, HPc⟩
    · have HN := hid (fun W : World => new_bad hok W)
      have HRN := hid (fun W : World => rnew_bad hok W)
      clear hok
      go_enter Try.func5, Try.ntmps5
      go_wp2_with fail
      refine (HN.out _).mono ?_
      rintro e w1 ⟨rfl, hf⟩
      have HF := hid hf
      clear hf HN
      go_wp2_with fail
      refine (HRN.out _).mono ?_
      rintro e w2 ⟨rfl, hf2⟩
      have HF2 := hid (HF.out.trans hf2)
      clear hf2 HF HRN
      go_wp2_with fail
      go_loopg [13] 0 (fun k s13 wx => s13 = .int .i64 0 ∧ wx = w2)
      case atStart => exact ⟨rfl, rfl⟩
      case round =>
        obtain ⟨rfl, rfl⟩ := hrel
        have hc : ¬ (0 : Int) < (rs.length : Int) ∨ (0 : Int) < (rs.length : Int) := by omega
        rcases hc with t1 | t1
        all_goals
          go_wp2_with fail
          go_loopg [14, 15, 16, 17, 18, 19, 20, 21] 0 (fun k s14 s15 s16 s17 s18 s19 s20 s21 wx => s14 = .int .i64 0 ∧ Hid (Fr w wx (fun _ => False)))
          case atStart => exact ⟨rfl, HF2⟩
          case round =>
            obtain ⟨rfl, HF3⟩ := hrel
            have hc : ¬ (0 : Int) < (ts.length : Int) ∨ (0 : Int) < (ts.length : Int) := by omega
            rcases hc with t3 | t3
            all_goals
              go_wp2_with fail
              refine (head_any _).mono ?_
              rintro e w6 ⟨rfl, hf6⟩
              have HS6 := hid (HF3.out.trans hf6)
              clear hf6
              go_wp2_with fail
              go_ret
              exact ⟨rfl, HS6.out⟩
end Go.Proofs.Ytfmhdpenodmblaa
