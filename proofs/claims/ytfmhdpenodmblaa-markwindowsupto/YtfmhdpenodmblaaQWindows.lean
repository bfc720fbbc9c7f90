/- MarkWindows: the walk. -/
import Derived.Test.YtfmhdpenodmblaaQTold
import Derived.Test.YtfmhdpenodmblaaQOrderP
namespace Go.Proofs.Ytfmhdpenodmblaa
open Go.RowKit

theorem leastL_one (x : Int) : leastL [x] = x := by
  show min x x = x
  omega
theorem rise_one {x t : Int} (ht : -1152921504606846976 ≤ t ∧ t ≤ 1152921504606846976) : riseS [x] 0 t = [max x t] := by
  have e1 : hasB [x].length 0 = true := by unfold hasB; exact decide_eq_true ⟨by omega, by simp⟩
  have e2 : isT t = true := by unfold isT; exact decide_eq_true ht
  unfold riseS
  rw [e1, e2]
  rfl
theorem Cr.fr2 {w w' : World} {S : Nat → Prop} {u : Value} {L : List Ce} (h : Cr w u L) (hf : Fr w w' S) (hS : ∀ k cs, w.heap[k]? = some (.cells cs 76 (0, 0)) → ¬ S k) : Cr w' u L := by
  obtain ⟨ao, cap, rfl, hl, hc⟩ := h
  refine ⟨ao, cap, rfl, hl, fun hne => ?_⟩
  obtain ⟨g, rest, rfl, hr⟩ := hc hne
  exact ⟨g, rest, rfl, hr.fr hf (hS g _ hr)⟩
/-- A time of the law. -/
def tmL (ts : List Int) (k : Nat) : Int := (ts.getD k 0).tmod 1152921504606846976
/-- The marks, and what was told at first. -/
structure WI (w : World) (B g : Nat) (x : Int) (vs : List Vw) (ts : List Int) (v : Value) (us : List Value) (W : World) : Prop where
  km : Km W B g [x]
  own : W.ownsRow w.heap.size 45 1 v us.length us
  cr : ∀ k, k < us.length → Cr W (us.getD k (.slice none 0 0)) (opnL vs noM (tmL ts k))
  le : noM ≤ x
  bn : w.heap.size ≤ B ∧ w.heap.size ≤ g
  fr : Fr w W (fun _ => False)
theorem WI.step {w : World} {B g : Nat} {x : Int} {vs : List Vw} {ts : List Int} {v : Value} {us : List Value} {W W' : World} (p : WI w B g x vs ts v us W) (hf : Fr W W' (fun _ => False)) : WI w B g x vs ts v us W' :=
  ⟨p.km.fr hf (fun h => h) (fun h => h), own_fr p.own hf (fun _ _ h => h), fun k hk => (p.cr k hk).fr hf, p.le, p.bn, p.fr.trans hf⟩
theorem WI.rise {w : World} {B g : Nat} {x y : Int} {vs : List Vw} {ts : List Int} {v : Value} {us : List Value} {W W' : World} (p : WI w B g x vs ts v us W) (hk : Km W' B g [y]) (hy : x ≤ y) (hf : Fr W W' (fun b => b = g)) : WI w B g y vs ts v us W' := by
  have hrow : W.heap[g]? = some (.cells (iv [x]).toArray 2 (0, 0)) := p.km.row
  refine ⟨hk, own_fr p.own hf (fun k hk e => own_ne p.own hrow (by decide) (by rw [← e]; exact hk)), fun k hk => (p.cr k hk).fr2 hf (fun k cs hc e => ?_), Int.le_trans p.le hy, p.bn, p.fr.trans2 hf (fun i hi e => by have := p.bn; omega)⟩
  subst e
  rw [hc] at hrow
  simp at hrow
theorem WI.grow {w : World} {B g : Nat} {x : Int} {vs : List Vw} {ts : List Int} {v v' u : Value} {us : List Value} {W w1 : World} (p : WI w B g x vs ts v us W) (hu : Cr W u (opnL vs noM (tmL ts us.length))) (hown : w1.ownsRow w.heap.size 45 1 v' (us.length + 1) (us ++ [u])) (hg : W.grownBy w1 v.ownBlock) : WI w B g x vs ts v' (us ++ [u]) w1 := by
  have hf : Fr W w1 (fun b => v.ownBlock = some b) := (Fr.refl W _).grown hg (fun k _ e => e)
  have hrow : W.heap[g]? = some (.cells (iv [x]).toArray 2 (0, 0)) := p.km.row
  have hS : ∀ k cs, W.heap[k]? = some (.cells cs 76 (0, 0)) → ¬ v.ownBlock = some k := fun k cs hk e => own_ne p.own hk (by decide) e
  refine ⟨p.km.fr hf (fun e => own_ne p.own p.km.cell (by decide) e) (fun e => own_ne p.own hrow (by decide) e), by rw [List.length_append]; exact hown, fun k hk => ?_, p.le, p.bn, ?_⟩
  · rcases Nat.lt_or_ge k us.length with h | h
    · have e : (us ++ [u]).getD k (.slice none 0 0) = us.getD k (.slice none 0 0) := by simp [List.getD, List.getElem?_append_left h]
      rw [e]
      exact (p.cr k h).fr2 hf hS
    · have e0 : k = us.length := by rw [List.length_append] at hk; simp at hk; omega
      subst e0
      have e : (us ++ [u]).getD us.length (.slice none 0 0) = u := by simp [List.getD]
      rw [e]
      exact hu.fr2 hf hS
  · exact p.fr.trans2 hf (fun i hi e => by have := p.own.lt i e; omega)
theorem WI.at {w : World} {B g : Nat} {x : Int} {vs : List Vw} {ts : List Int} {v : Value} {us : List Value} {W : World} (p : WI w B g x vs ts v us W) {k : Nat} (hk : k < us.length) : ∃ gs cap, v = .slice (some ⟨gs, 0, none⟩) us.length cap ∧ W.cell? ⟨gs, k, none⟩ = some (us.getD k (.slice none 0 0)) ∧ gs < W.heap.size := by
  rcases p.own.2 with ⟨_, h0⟩ | ⟨gs, cap, cur, hv, _⟩
  · omega
  · refine ⟨gs, cap, hv, ?_, own_lt p.own (by rw [hv]; rfl)⟩
    have ho := p.own
    rw [hv] at ho
    rw [ho.cellAt k (by omega)]
    simp [List.getD, hk]
theorem Try.info_cells : (Try.prog.info? 45).map (fun i => (i.zero, i.size, i.bytes)) = some (some (.slice none 0 0), 1, 24) := by kernel_rfl

set_option maxHeartbeats 8000000 in
set_option maxRecDepth 100000 in
theorem windows_walk {w : World} {u0 u1 u2 : Value} {ts : List Int} {vs : List Vw} {qs : List Int} (hts : Nu w u0 ts) (hvs : Vs w u1 vs) (hqs : Nu w u2 qs) : Calls Try.prog 8 #[u0, u1, u2] w fun e w' => e = .returned (.bool true) ∧ Fr w w' (fun _ => False) := by
  have HTS := hid hts
  have HVS := hid hvs
  have HQS := hid hqs
  obtain ⟨ao, cap0, rfl, htl, _⟩ := id hts
  obtain ⟨bo, cap1, rfl, hvl, _⟩ := id hvs
  obtain ⟨co, cap2, rfl, hql, _⟩ := id hqs
  clear hts hvs hqs
  obtain ⟨i0, hinfo, hz0, hz1, hz2⟩ := infoP Try.info_cells
  have HN := hid (fun W : World => new_ok (n := 1) (by omega) (by omega) W)
  by_cases h4 : 4 < vs.length
  · have u1 : (4 : Int) < (vs.length : Int) := by omega
    clear h4
    go_enter Try.func8, Try.ntmps8
    go_wp2_with fail
    refine (HN.out _).mono ?_
    rintro e w1 ⟨B, g, rfl, hK, hB, hg, hf⟩
    have HF := hid hf
    clear hK hf hB hg HN
    go_wp2_with fail
    refine (head_any _).mono ?_
    rintro e w6 ⟨rfl, hf6⟩
    have HF6 := hid (HF.out.trans hf6)
    clear hf6
    go_wp2_with fail
    go_ret
    exact ⟨rfl, HF6.out⟩
  · have u1 : ¬ (4 : Int) < (vs.length : Int) := by omega
    have h4' : vs.length ≤ 4 := by omega
    clear h4
    go_enter Try.func8, Try.ntmps8
    go_wp2_with fail
    refine (HN.out _).mono ?_
    rintro e w1 ⟨B, g, rfl, hK, hB, hg, hf⟩
    have HK := hid hK
    have HF := hid hf
    have HBG := hid (And.intro hB hg)
    clear hK hf hB hg HN
    go_wp2_with fail
    go_loopg [9] vs.length (fun n s9 wx => ∃ i : Nat, s9 = .int .i64 (i : Int) ∧ Hid (i + n = vs.length) ∧ Hid (∀ j, j < i → OkV (vs.getD j vw0).s (vs.getD j vw0).d (vs.getD j vw0).l) ∧ Hid (Fr w1 wx (fun _ => False)))
    case atStart => exact ⟨0, rfl, by show _ = _; omega, (by intro j hj; omega), Fr.refl _ _⟩
    case round =>
      obtain ⟨i, rfl, HG, HA, HF2⟩ := hrel
      cases gk with
      | succ n =>
        have hi : i < vs.length := by have := HG.out; omega
        have t1 : (i : Int) < (vs.length : Int) := by omega
        obtain ⟨b, off, rfl, c0, c1, c2⟩ := (HVS.out.fr (HF.out.trans HF2.out) (fun _ _ _ _ _ h => h)).at hi
        have hbl : b < wr.heap.size := World.block_lt_of_cell? wr _ c0
        by_cases hok : OkV (vs.getD i vw0).s (vs.getD i vw0).d (vs.getD i vw0).l
        · have HC := hid (fun W : World => check_ok hok W)
          have HA1 : Hid (∀ j, j < i + 1 → OkV (vs.getD j vw0).s (vs.getD j vw0).d (vs.getD j vw0).l) := fun j hj => by
            rcases Nat.lt_or_ge j i with h | h
            · exact HA.out j h
            · rw [show j = i by omega]; exact hok
          clear hok hi HA
          generalize (vs.getD i vw0).s = vs0 at *
          generalize (vs.getD i vw0).d = vd0 at *
          generalize (vs.getD i vw0).l = vl0 at *
          go_wp2_with fail
          refine (HC.out _).mono ?_
          rintro e w3 ⟨rfl, hf⟩
          have HF3 := hid (HF2.out.trans hf)
          clear hf
          go_wp2_with fail
          go_roundg n
          case measure => omega
          case rel => exact ⟨i + 1, by go_num, by have := HG.out; show _ = _; omega, HA1, HF3⟩
        · have HC := hid (fun W : World => check_bad hok W)
          clear hok hi
          generalize (vs.getD i vw0).s = vs0 at *
          generalize (vs.getD i vw0).d = vd0 at *
          generalize (vs.getD i vw0).l = vl0 at *
          go_wp2_with fail
          refine (HC.out _).mono ?_
          rintro e w3 ⟨rfl, hf⟩
          have HF3 := hid (HF2.out.trans hf)
          clear hf
          go_wp2_with fail
          refine (head_any _).mono ?_
          rintro e w6 ⟨rfl, hf6⟩
          have HF6 := hid (HF.out.trans (HF3.out.trans hf6))
          clear hf6
          go_wp2_with fail
          try rw [Exit.noGoto_ret]
          go_ret
          exact ⟨rfl, HF6.out⟩
      | zero =>
        have t1 : ¬ (i : Int) < (vs.length : Int) := by have := HG.out; omega
        have hok : okVs vs = true := okVs_all (fun j hj => HA.out j (by have := HG.out; omega))
        have HCH : Hid (∀ k, chkN vs (tmL ts k) = 0) := fun k => chk_of h4' hok (tmod_time _)
        have HP : Hid (WI w B g noM vs ts (.slice none 0 0) [] wr) := ⟨HK.out.fr HF2.out (fun h => h) (fun h => h), ⟨rfl, Or.inl ⟨rfl, rfl⟩⟩, fun k hk => by simp at hk, Int.le_refl _, HBG.out, HF.out.trans HF2.out⟩
        clear HK HF HBG HA HF2 HG hok
        go_wp2_with fail
        generalize wr = W0 at *
        go_loopg [10, 11, 12, 13, 14, 15, 16] (min qs.length 12) (fun n s10 s11 s12 s13 s14 s15 s16 wx => ∃ (i : Nat) (x : Int) (us : List Value), s11 = .int .i64 (i : Int) ∧ Hid (i + n = min qs.length 12) ∧ Hid ((i = 0 ∧ us = [] ∧ x = noM) ∨ (0 < i ∧ us.length = min ts.length 12)) ∧ Hid (WI w B g x vs ts s10 us wx))
        case atStart => exact ⟨0, noM, [], rfl, by show _ = _; omega, Or.inl ⟨rfl, rfl, rfl⟩, HP⟩
        case round =>
          obtain ⟨i, x, us, rfl, HG, HU, HP1⟩ := hrel
          clear HP
          obtain ⟨a10, c10, e10⟩ := own_nil_shape HP1.out.own
          subst e10
          cases gk with
          | zero =>
            have hc : ¬ (i : Int) < (qs.length : Int) ∨ ((i : Int) < (qs.length : Int) ∧ ¬ (i : Int) < 12) := by have := HG.out; omega
            rcases hc with t3 | ⟨t3, t4⟩
            all_goals
              go_wp2_with fail
              refine (head_any _).mono ?_
              rintro e w6 ⟨rfl, hf6⟩
              have HS6 := hid (HP1.out.step hf6)
              clear hf6
              go_wp2_with fail
              go_ret
              exact ⟨rfl, HS6.out.fr⟩
          | succ n =>
            have hi : i < qs.length := by have := HG.out; omega
            have t3 : (i : Int) < (qs.length : Int) := by omega
            have t4 : (i : Int) < 12 := by have := HG.out; omega
            rcases HU.out with ⟨rfl, rfl, rfl⟩ | ⟨hi0, hul0⟩
            · clear HU
              go_wp2_with fail
              generalize wr = W1 at *
              go_loopg [10, 12, 13, 14, 15, 16] (min ts.length 12) (fun m s10 s12 s13 s14 s15 s16 wx => ∃ (k : Nat) (us : List Value), s12 = .int .i64 (k : Int) ∧ Hid (k + m = min ts.length 12) ∧ Hid (us.length = k) ∧ Hid (WI w B g noM vs ts s10 us wx))
              case atStart => exact ⟨0, [], rfl, by show _ = _; omega, rfl, HP1⟩
              case round =>
                obtain ⟨k, us, rfl, HJ, HUL, HP2⟩ := hrel
                clear HP1
                obtain ⟨a10, c10, e10⟩ := own_nil_shape HP2.out.own
                subst e10
                cases gk with
                | zero =>
                  have hc : ¬ (k : Int) < (ts.length : Int) ∨ ((k : Int) < (ts.length : Int) ∧ ¬ (k : Int) < 12) := by have := HJ.out; omega
                  rcases hc with t5 | ⟨t5, t6⟩
                  all_goals
                    go_wp2_with fail
                    go_roundg n
                    case measure => omega
                    case rel => exact ⟨0 + 1, noM, us, by go_num, by have := HG.out; show _ = _; omega, Or.inr ⟨by omega, by have := HUL.out; have := HJ.out; omega⟩, HP2⟩
                | succ p =>
                  have hk : k < ts.length := by have := HJ.out; omega
                  have t5 : (k : Int) < (ts.length : Int) := by omega
                  have t6 : (k : Int) < 12 := by have := HJ.out; omega
                  obtain ⟨bt, ot, rfl, ct, _⟩ := (HTS.out.fr HP2.out.fr).at hk
                  have hbt : bt < wr.heap.size := World.block_lt_of_cell? wr _ ct
                  have HTM : Hid (tmL ts k = (ts.getD k 0).tmod 1152921504606846976) := rfl
                  generalize ts.getD k 0 = t0 at *
                  have HCK := hid (HCH.out k)
                  have HOM := hid (fun (W : World) (hW : Km W B g [noM]) (hF : Fr w W (fun _ => False)) => mopen_any hW (HVS.out.fr hF (fun _ _ _ _ _ h => h)) (tmL ts k))
                  have HLE := hid (fun (W : World) (hW : Km W B g [noM]) => least_any hW)
                  rw [leastL_one] at HOM HLE
                  have HTD : Hid (∀ (W : World) (u : Value), Cr W u (opnL vs noM (tmL ts k)) → Fr w W (fun _ => False) → Calls Try.prog 26 #[u, .bool (opnB vs noM (tmL ts k)), .int .i64 (tmL ts k), .slice bo vs.length cap1, .int .i64 noM] W fun e w' => e = .returned (.bool true) ∧ Fr W w' (fun _ => False)) := fun W u hu hF => by
                    have e1 : opnB vs noM (tmL ts k) = (decide ((opL vs noM (winL vs (tmL ts k))).length = 0) && decide (0 < (winL vs (tmL ts k)).length)) := by unfold opnB; rw [if_pos HCK.out]
                    have e2 : opnL vs noM (tmL ts k) = opL vs noM (winL vs (tmL ts k)) := by unfold opnL; rw [if_pos HCK.out]
                    rw [e1]
                    rw [e2] at hu
                    exact told_any HCK.out hu (HVS.out.fr hF (fun _ _ _ _ _ h => h))
                  have HLEN := hid (opnL_len vs noM (tmL ts k))
                  have HSUB := hid (sub_opn (vs := vs) HP2.out.le (tmL ts k))
                  rw [HCK.out] at HOM
                  obtain ⟨tt, htt⟩ : ∃ tt, tt = tmL ts k := ⟨_, rfl⟩
                  have HTE := hid htt
                  rw [← htt] at HOM HTD HLEN HTM HSUB
                  have htm := HTM.out
                  clear htt HCK HTM
                  generalize opnB vs noM tt = ob at *
                  generalize hOPX : opnL vs noM tt = OX at *
                  have HOPX := hid hOPX
                  clear hOPX hk
                  go_upto_region 19 with (fail)
                  rw [← htm]
                  clear htm ct hbt
                  go_wp2_with fail
                  refine (HOM.out _ HP2.out.km HP2.out.fr).mono ?_
                  rintro e w3 ⟨ux, rfl, hco, hf3⟩
                  have HP3 := hid (HP2.out.step hf3)
                  have HCR := hid (hco.cr HLEN.out)
                  obtain ⟨aox, rfl⟩ := hco.shape
                  clear hco hf3 HP2 HOM
                  go_wp2_with fail
                  refine (HLE.out _ HP3.out.km).mono ?_
                  rintro e w4 ⟨rfl, hf4⟩
                  have HP4 := hid (HP3.out.step hf4)
                  have HCR4 := hid (HCR.out.fr hf4)
                  clear hf4 HP3 HCR HLE
                  go_wp2_with fail
                  refine (HTD.out _ _ HCR4.out HP4.out.fr).mono ?_
                  rintro e w5 ⟨rfl, hf5⟩
                  have HP5 := hid (HP4.out.step hf5)
                  have HCR5 := hid (HCR4.out.fr hf5)
                  clear hf5 HP4 HCR4 HTD
                  have HCR6 : Hid (Cr w5 (.slice aox OX.length OX.length) (opnL vs noM (tmL ts us.length))) := by
                    show Cr _ _ _
                    rw [HUL.out, ← HTE.out, HOPX.out]
                    exact HCR5.out
                  have hul : us.length ≤ 12 := by have := HUL.out; omega
                  go_wp2_with (at_builtin; go_must (refine wpList_append_own_at _ rfl (.tmp 102) (.tmp 104) 59 rfl w.heap.size 45 i0 (.slice none 0 0) 1 24 Try.underlying59 hinfo hz0 hz1 hz2 rfl (by decide) _ _ _ rfl (HP5.out.own.alloc _) ⟨w5.heap.size, 0, none⟩ 1 1 [.slice aox OX.length OX.length] rfl rfl (cells_new _ _ _) ?c2 ?c3 ?c4 ?c5 ?_))
                  case c2 => intro x hx; simp at hx; subst hx; rfl
                  case c3 => unfold maxLen; omega
                  case c4 => omega
                  case c5 => have := HP5.out.fr.size; simp; omega
                  intro v7 w7 hown7 hg7 _ _
                  have HP7 := hid ((HP5.out.step (alloc_fr _ _ _)).grow (HCR6.out.fr (alloc_fr _ _ _)) hown7 hg7)
                  obtain ⟨a7, c7, rfl⟩ := own_nil_shape hown7
                  clear hown7 hg7 HP5 HCR5 HCR6
                  go_wp2_with fail
                  go_roundg p
                  case measure => omega
                  case rel => exact ⟨k + 1, us ++ [.slice aox OX.length OX.length], by go_num, by have := HJ.out; show _ = _; omega, by have := HUL.out; show _ = _; rw [List.length_append]; simp; omega, HP7⟩
            · have HUL := hid hul0
              clear HU hul0
              have hi1 : (0 : Int) < (i : Int) := by omega
              have hi2 : ¬ (i : Int) = 0 := by omega
              have hi3 : ((i : Int) == 0) = false := by simp; omega
              obtain ⟨bq, oq, rfl, cq, _⟩ := (HQS.out.fr HP1.out.fr).at hi
              have hbq : bq < wr.heap.size := World.block_lt_of_cell? wr _ cq
              generalize qs.getD i 0 = q0 at *
              obtain ⟨qt, hqt⟩ : ∃ qt, qt = q0.tmod 1152921504606846976 := ⟨_, rfl⟩
              have HRI := hid (rise_any HP1.out.km 0 qt)
              rw [rise_one (by rw [hqt]; exact tmod_time _)] at HRI
              generalize riseR [x] 0 qt = rr at *
              go_wp2_with fail
              rw [← hqt]
              refine HRI.out.mono ?_
              rintro e w2 ⟨rfl, hk2, hf2⟩
              obtain ⟨y, hy⟩ : ∃ y, y = max x qt := ⟨_, rfl⟩
              rw [← hy] at hk2
              have HPR := hid (HP1.out.rise hk2 (by omega) hf2)
              clear hk2 hf2 HP1 HRI hqt hy cq hbq hi
              go_wp2_with fail
              go_loopg [10, 12, 13, 14, 15, 16] (min ts.length 12) (fun m s10 s12 s13 s14 s15 s16 wx => ∃ (k : Nat), s10 = .slice a10 us.length c10 ∧ s12 = .int .i64 (k : Int) ∧ Hid (k + m = min ts.length 12) ∧ Hid (WI w B g y vs ts (.slice a10 us.length c10) us wx))
              case atStart => exact ⟨0, rfl, rfl, by show _ = _; omega, HPR⟩
              case round =>
                obtain ⟨k, rfl, rfl, HJ, HP2⟩ := hrel
                clear HPR
                cases gk with
                | zero =>
                  have hc : ¬ (k : Int) < (ts.length : Int) ∨ ((k : Int) < (ts.length : Int) ∧ ¬ (k : Int) < 12) := by have := HJ.out; omega
                  rcases hc with t5 | ⟨t5, t6⟩
                  all_goals
                    go_wp2_with fail
                    go_roundg n
                    case measure => omega
                    case rel => exact ⟨i + 1, y, us, by go_num, by have := HG.out; show _ = _; omega, Or.inr ⟨by omega, HUL.out⟩, HP2⟩
                | succ p =>
                  have hk : k < ts.length := by have := HJ.out; omega
                  have t5 : (k : Int) < (ts.length : Int) := by omega
                  have t6 : (k : Int) < 12 := by have := HJ.out; omega
                  obtain ⟨bt, ot, rfl, ct, _⟩ := (HTS.out.fr HP2.out.fr).at hk
                  have hbt : bt < wr.heap.size := World.block_lt_of_cell? wr _ ct
                  have HTM : Hid (tmL ts k = (ts.getD k 0).tmod 1152921504606846976) := rfl
                  generalize ts.getD k 0 = t0 at *
                  have HCK := hid (HCH.out k)
                  have HOM := hid (fun (W : World) (hW : Km W B g [y]) (hF : Fr w W (fun _ => False)) => mopen_any hW (HVS.out.fr hF (fun _ _ _ _ _ h => h)) (tmL ts k))
                  have HLE := hid (fun (W : World) (hW : Km W B g [y]) => least_any hW)
                  rw [leastL_one] at HOM HLE
                  have HTD : Hid (∀ (W : World) (u : Value), Cr W u (opnL vs y (tmL ts k)) → Fr w W (fun _ => False) → Calls Try.prog 26 #[u, .bool (opnB vs y (tmL ts k)), .int .i64 (tmL ts k), .slice bo vs.length cap1, .int .i64 y] W fun e w' => e = .returned (.bool true) ∧ Fr W w' (fun _ => False)) := fun W u hu hF => by
                    have e1 : opnB vs y (tmL ts k) = (decide ((opL vs y (winL vs (tmL ts k))).length = 0) && decide (0 < (winL vs (tmL ts k)).length)) := by unfold opnB; rw [if_pos HCK.out]
                    have e2 : opnL vs y (tmL ts k) = opL vs y (winL vs (tmL ts k)) := by unfold opnL; rw [if_pos HCK.out]
                    rw [e1]
                    rw [e2] at hu
                    exact told_any HCK.out hu (HVS.out.fr hF (fun _ _ _ _ _ h => h))
                  have HLEN := hid (opnL_len vs y (tmL ts k))
                  have HSUB := hid (sub_opn (vs := vs) HP2.out.le (tmL ts k))
                  rw [HCK.out] at HOM
                  obtain ⟨tt, htt⟩ : ∃ tt, tt = tmL ts k := ⟨_, rfl⟩
                  have HTE := hid htt
                  rw [← htt] at HOM HTD HLEN HTM HSUB
                  have htm := HTM.out
                  clear htt HCK HTM
                  generalize opnB vs y tt = ob at *
                  generalize hOPX : opnL vs y tt = OX at *
                  have HOPX := hid hOPX
                  clear hOPX hk
                  go_upto_region 19 with (fail)
                  rw [← htm]
                  clear htm ct hbt
                  go_wp2_with fail
                  refine (HOM.out _ HP2.out.km HP2.out.fr).mono ?_
                  rintro e w3 ⟨ux, rfl, hco, hf3⟩
                  have HP3 := hid (HP2.out.step hf3)
                  have HCR := hid (hco.cr HLEN.out)
                  obtain ⟨aox, rfl⟩ := hco.shape
                  clear hco hf3 HP2 HOM
                  go_wp2_with fail
                  refine (HLE.out _ HP3.out.km).mono ?_
                  rintro e w4 ⟨rfl, hf4⟩
                  have HP4 := hid (HP3.out.step hf4)
                  have HCR4 := hid (HCR.out.fr hf4)
                  clear hf4 HP3 HCR HLE
                  go_wp2_with fail
                  refine (HTD.out _ _ HCR4.out HP4.out.fr).mono ?_
                  rintro e w5 ⟨rfl, hf5⟩
                  have HP5 := hid (HP4.out.step hf5)
                  have HCR5 := hid (HCR4.out.fr hf5)
                  clear hf5 HP4 HCR4 HTD
                  have hku : k < us.length := by have := HUL.out; omega
                  obtain ⟨gs, cps, hsv, cs0, hgs⟩ := HP5.out.at hku
                  have HCW := hid (HP5.out.cr k hku)
                  rw [← HTE.out] at HCW
                  have HAM := hid (among_any HCR5.out HCW.out HSUB.out)
                  have hku2 : (k : Int) < (us.length : Int) := by omega
                  generalize us.getD k (.slice none 0 0) = uk at *
                  cases hsv
                  clear HCW HCR5 hku
                  go_wp2_with fail
                  refine HAM.out.mono ?_
                  rintro e w6 ⟨rfl, hf6⟩
                  have HP6 := hid (HP5.out.step hf6)
                  clear hf6 HP5 HAM cs0 hgs
                  go_wp2_with fail
                  go_roundg p
                  case measure => omega
                  case rel => exact ⟨k + 1, rfl, by go_num, by have := HJ.out; show _ = _; omega, HP6⟩
end Go.Proofs.Ytfmhdpenodmblaa
