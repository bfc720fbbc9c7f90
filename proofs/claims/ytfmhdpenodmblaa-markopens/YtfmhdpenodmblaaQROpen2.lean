/- The document's Open: the walk. -/
import Derived.Test.YtfmhdpenodmblaaQROpen
import Derived.Test.YtfmhdpenodmblaaQLend
namespace Go.Proofs.Ytfmhdpenodmblaa
open Go.RowKit

theorem Cw.cr {w w' : World} {u : Value} {L : List Ce} (h : Cw w w' u L) (hl : L.length ≤ 1000000) : Cr w' u L := by
  rcases h.row with ⟨rfl, rfl⟩ | ⟨g, cap, rest, rfl, _, _, _, hr, _⟩
  · exact ⟨none, 0, rfl, by simp, fun h => absurd rfl h⟩
  · exact ⟨_, _, rfl, hl, fun _ => ⟨g, rest, rfl, hr⟩⟩

set_option maxHeartbeats 2000000 in
set_option maxRecDepth 100000 in
theorem ropen_any {w : World} {base C g cap : Nat} {ms : List Int} (hk : Rm w base C g cap ms) {v : Value} {vs : List Vw} (hv : Vs w v vs) (t : Int) : Calls Try.prog 21 #[.pointer (some ⟨C, 0, none⟩), .int .i64 t, v] w fun e w' =>
    ∃ u, e = .returned (.tuple #[u, .bool (opnB vs (leastL ms) t), .int .i64 (chkN vs t)]) ∧ Cr w' u (opnL vs (leastL ms) t) ∧ Fr w w' (fun _ => False) := by
  have HK := hid hk
  have HV := hid hv
  have HL2 := hid (fun (W : World) (hW : Fr w W (fun _ => False)) => rleast_any (HK.out.fr hW (fun h => h) (fun h => h)))
  have HLEN := hid (opnL_len vs (leastL ms) t)
  obtain ⟨ao, capv, rfl, hl, _⟩ := id hv
  clear hk hv
  generalize leastL ms = m at *
  by_cases h4 : 4 < vs.length
  · have e : chkN vs t = 2 := by unfold chkN; rw [if_pos h4]
    have e1 : opnB vs m t = false := by unfold opnB; rw [e]; rfl
    have e2 : opnL vs m t = [] := by unfold opnL; rw [e]; rfl
    have u1 : (4 : Int) < (vs.length : Int) := by omega
    rw [e, e1, e2]
    clear e e1 e2 h4
    go_enter Try.func21, Try.ntmps21
    go_wp2_with fail
    go_ret3
    exact ⟨_, rfl, ⟨none, 0, rfl, by simp, fun h => absurd rfl h⟩, Fr.refl _ _⟩
  · have u1 : ¬ (4 : Int) < (vs.length : Int) := by omega
    obtain ⟨RB, hRB⟩ : ∃ RB, RB = opnB vs m t := ⟨_, rfl⟩
    obtain ⟨RL, hRL⟩ : ∃ RL, RL = opnL vs m t := ⟨_, rfl⟩
    obtain ⟨RC, hRC⟩ : ∃ RC, RC = chkN vs t := ⟨_, rfl⟩
    rw [← hRB, ← hRL, ← hRC]
    rw [← hRL] at HLEN
    have HRB := hid hRB
    have HRL := hid hRL
    have HRC := hid hRC
    clear hRB hRL hRC
    go_enter Try.func21, Try.ntmps21
    go_wp2_with fail
    go_loopg [9] vs.length (fun n s9 wx => ∃ i : Nat, s9 = .int .i64 (i : Int) ∧ Hid (i + n = vs.length) ∧ Hid (∀ j, j < i → OkV (vs.getD j vw0).s (vs.getD j vw0).d (vs.getD j vw0).l) ∧ Hid (Fr w wx (fun _ => False)))
    case atStart => exact ⟨0, rfl, by show _ = _; omega, (by intro j hj; omega), Fr.refl _ _⟩
    case round =>
      obtain ⟨i, rfl, HG, HA, HF⟩ := hrel
      cases gk with
      | zero =>
        have t1 : ¬ (i : Int) < (vs.length : Int) := by have := HG.out; omega
        have hok : okVs vs = true := okVs_all (fun j hj => HA.out j (by have := HG.out; omega))
        have e0 : chkN vs t = if isT t then 0 else 22 := by unfold chkN; rw [if_neg h4, hok, if_pos rfl]
        by_cases hti : Ti t
        · have hb : isT t = true := by unfold isT; exact decide_eq_true hti
          rw [hb, if_pos rfl] at e0
          have u2 : ¬ t < -1152921504606846976 := by unfold Ti at hti; omega
          have u3 : ¬ 1152921504606846976 < t := by unfold Ti at hti; omega
          have hRB2 : RB = (decide ((opL vs m (winL vs t)).length = 0) && decide (0 < (winL vs t).length)) := by rw [HRB.out]; unfold opnB; rw [if_pos e0]
          have hRL2 : RL = opL vs m (winL vs t) := by rw [HRL.out]; unfold opnL; rw [if_pos e0]
          have hRC2 : RC = 0 := by rw [HRC.out, e0]
          have HWI : Hid (∀ W : World, Fr w W (fun _ => False) → Calls Try.prog 37 #[.int .i64 t, .int .i64 m, .slice ao vs.length capv] W fun e w' => ∃ u, e = .returned (.tuple #[u, .bool RB]) ∧ Cw W w' u RL) := fun W hW => by
            rw [hRB2, hRL2]
            exact rwindows_any (HV.out.fr hW (fun _ _ _ _ _ h => h)) e0 m
          have HRC2 := hid hRC2
          clear hRB2 hRL2 hRC2 e0 hb hti hok
          go_wp2_with fail
          refine (HL2.out _ HF.out).mono ?_
          rintro e w1 ⟨rfl, hf1⟩
          have HF1 := hid (HF.out.trans hf1)
          clear hf1
          go_wp2_with fail
          refine (HWI.out _ HF1.out).mono ?_
          rintro e w2 ⟨u, rfl, hcw⟩
          have HCR := hid (hcw.cr HLEN.out)
          have HF2 := hid (HF1.out.trans hcw.2)
          clear hcw
          go_wp2_with fail
          go_ret3
          exact ⟨u, by rw [HRC2.out]; rfl, HCR.out, HF2.out⟩
        · have hb : isT t = false := by unfold isT; exact decide_eq_false hti
          rw [hb] at e0
          have hne : ¬ chkN vs t = 0 := by rw [e0]; decide
          have hRB2 : RB = false := by rw [HRB.out]; unfold opnB; rw [if_neg hne]
          have hRL2 : RL = [] := by rw [HRL.out]; unfold opnL; rw [if_neg hne]
          have hRC2 : RC = 22 := by rw [HRC.out, e0]; rfl
          have HX := hid (And.intro hRB2 (And.intro hRL2 hRC2))
          have hcase : t < -1152921504606846976 ∨ (¬ t < -1152921504606846976 ∧ 1152921504606846976 < t) := by unfold Ti at hti; omega
          clear hRB2 hRL2 hRC2 e0 hb hti hok hne
          rcases hcase with u2 | ⟨u2, u3⟩
          all_goals
            go_wp2_with fail
            go_ret3
            obtain ⟨x1, x2, x3⟩ := HX.out
            exact ⟨_, by rw [x1, x3]; rfl, by rw [x2]; exact ⟨none, 0, rfl, by simp, fun h => absurd rfl h⟩, HF.out⟩
      | succ n =>
        have hi : i < vs.length := by have := HG.out; omega
        have t1 : (i : Int) < (vs.length : Int) := by omega
        obtain ⟨b, off, rfl, c0, c1, c2⟩ := (HV.out.fr HF.out (fun _ _ _ _ _ h => h)).at hi
        have hbl : b < wr.heap.size := World.block_lt_of_cell? wr _ c0
        by_cases hok : OkV (vs.getD i vw0).s (vs.getD i vw0).d (vs.getD i vw0).l
        · have HC := hid (fun W : World => refCheck_ok hok W)
          have HA1 : Hid (∀ j, j < i + 1 → OkV (vs.getD j vw0).s (vs.getD j vw0).d (vs.getD j vw0).l) := fun j hj => by
            rcases Nat.lt_or_ge j i with h | h
            · exact HA.out j h
            · rw [show j = i by omega]; exact hok
          clear hok hi HA
          generalize (vs.getD i vw0).s = vs0 at *
          generalize (vs.getD i vw0).d = vd0 at *
          generalize (vs.getD i vw0).l = vl0 at *
          go_wp2_with fail
          refine (HC.out _).mono ?_
          rintro e w1 ⟨rfl, hf⟩
          have HF1 := hid (HF.out.trans hf)
          clear hf
          go_wp2_with fail
          go_roundg n
          case measure => omega
          case rel => exact ⟨i + 1, by go_num, by have := HG.out; show _ = _; omega, HA1, HF1⟩
        · have HC := hid (fun W : World => refCheck_bad hok W)
          have hne : chkN vs t = 23 := by unfold chkN; rw [if_neg h4, okVs_not hi hok]; rfl
          have hne2 : ¬ chkN vs t = 0 := by rw [hne]; decide
          have hRB2 : RB = false := by rw [HRB.out]; unfold opnB; rw [if_neg hne2]
          have hRL2 : RL = [] := by rw [HRL.out]; unfold opnL; rw [if_neg hne2]
          have hRC2 : RC = 23 := by rw [HRC.out, hne]
          have HX := hid (And.intro hRB2 (And.intro hRL2 hRC2))
          clear hok hi hne hne2 hRB2 hRL2 hRC2
          generalize (vs.getD i vw0).s = vs0 at *
          generalize (vs.getD i vw0).d = vd0 at *
          generalize (vs.getD i vw0).l = vl0 at *
          go_wp2_with fail
          refine (HC.out _).mono ?_
          rintro e w1 ⟨rfl, hf⟩
          have HF1 := hid (HF.out.trans hf)
          clear hf
          go_wp2_with fail
          try rw [Exit.noGoto_ret]
          go_ret3
          obtain ⟨x1, x2, x3⟩ := HX.out
          exact ⟨_, by rw [x1, x3]; rfl, by rw [x2]; exact ⟨none, 0, rfl, by simp, fun h => absurd rfl h⟩, HF1.out⟩
end Go.Proofs.Ytfmhdpenodmblaa
