/- The document's table: behind, Drop: walks. -/
import Derived.Test.YtobigmcklecbnaaRPut
namespace Go.Proofs.Ytobigmcklecbnaa
open Go.RowKit

set_option maxRecDepth 100000 in
theorem behind_any (n i h k : Nat) (w : World) (hi : i < n) (hh : h < n) (_hk : k < n) (hik : i ≠ k) :
    Calls Try.prog 75 #[.int .i64 (i : Int), .int .i64 (h : Int), .int .i64 (k : Int)] w fun e w' => e = .returned (.bool (decide (ds n h k < ds n i k))) ∧ w' = w := by
  have HD : Hid ((i < k ∧ i < h ∧ h ≤ k ∧ decide (ds n h k < ds n i k) = true) ∨ (i < k ∧ ¬ i < h ∧ decide (ds n h k < ds n i k) = false) ∨ (i < k ∧ i < h ∧ ¬ h ≤ k ∧ decide (ds n h k < ds n i k) = false) ∨ (¬ i < k ∧ i < h ∧ decide (ds n h k < ds n i k) = true) ∨ (¬ i < k ∧ ¬ i < h ∧ h ≤ k ∧ decide (ds n h k < ds n i k) = true) ∨ (¬ i < k ∧ ¬ i < h ∧ ¬ h ≤ k ∧ decide (ds n h k < ds n i k) = false)) := by
    unfold Hid ds
    simp only [decide_eq_true_eq, decide_eq_false_iff_not]
    split <;> split <;> omega
  generalize decide (ds n h k < ds n i k) = d at *
  rcases HD.out with ⟨a1, a2, a3, rfl⟩ | ⟨a1, a2, rfl⟩ | ⟨a1, a2, a3, rfl⟩ | ⟨a1, a2, rfl⟩ | ⟨a1, a2, a3, rfl⟩ | ⟨a1, a2, a3, rfl⟩
  all_goals
    clear HD
    go_enter Try.func75, Try.ntmps75
    go_wp2_with fail
    go_ret
    first
      | exact ⟨rfl, rfl⟩
      | exact ⟨by simp [*], rfl⟩

set_option maxHeartbeats 3000000 in
set_option maxRecDepth 100000 in
theorem rdrop_any {B gr : Nat} {ge : Option Nat} {T : Tb} (k : ByteArray) (w : World) (h : RfAt w B gr ge T) (hI : Inv T) (hk : k.size ≤ 9223372036854775807) :
    Calls Try.prog 45 #[.pointer (some ⟨B, 0, none⟩), .string k] w fun e w' => e = .returned (.tuple #[(dropV (.int .i64 0) T k).1, .bool (dropV (.int .i64 0) T k).2]) ∧ (∃ ge', RfAt w' B gr ge' (dropT (.int .i64 0) T k) ∧ (ge' = ge ∨ ge' = none)) ∧ Fr w w' (bl B gr ge) := by
  have hlt := h.lt
  have HMv := hid (rmove_any 4 w h)
  have HDi := hid (drop_inv (z := .int .i64 0) hI k)
  have HLe := hid h.len
  have HPd : Hid (dropT (.int .i64 0) T k = (
    if (placeT (moveT (.int .i64 0) T 4) k).2.2 then
      (if (placeT (moveT (.int .i64 0) T 4) k).2.1 then ⟨(moveT (.int .i64 0) T 4).row, (moveT (.int .i64 0) T 4).elder.set (placeT (moveT (.int .i64 0) T 4) k).1 (pg (.int .i64 0)), (moveT (.int .i64 0) T 4).moved, (moveT (.int .i64 0) T 4).keys - 1⟩ else ⟨mendL (.int .i64 0) (moveT (.int .i64 0) T 4).row (placeT (moveT (.int .i64 0) T 4) k).1, (moveT (.int .i64 0) T 4).elder, (moveT (.int .i64 0) T 4).moved, (moveT (.int .i64 0) T 4).keys - 1⟩)
    else (moveT (.int .i64 0) T 4))) := rfl
  have HVd : Hid (dropV (.int .i64 0) T k = getT (.int .i64 0) (moveT (.int .i64 0) T 4) k) := rfl
  clear h hI
  go_enter Try.func45, Try.ntmps45
  go_wp2_with fail
  refine HMv.out.mono ?_
  rintro e w1 ⟨rfl, ⟨ge1, hT1, hge⟩, hf1⟩
  generalize moveT (.int .i64 0) T 4 = U at *
  have HT1 := hid hT1
  have HGe := hid hge
  have hs1 := hf1.size
  have HFm : Hid (∀ w' : World, Fr w1 w' (bl B gr ge1) → Fr w w' (bl B gr ge)) := fun w' hf => hf1.trans2 hf (fun b hb e => by
    rcases e with e | e | e
    · exact Or.inl e
    · exact Or.inr (Or.inl e)
    · rcases HGe.out with e2 | e2
      · rw [e2] at e; exact Or.inr (Or.inr e)
      · rw [e2] at e; cases e)
  clear hge hf1 HMv
  have HPl := hid (rplace_any k w1 hT1 hk)
  obtain ⟨rv, ev, hc, hr, he⟩ := hT1.ex
  obtain ⟨capr, restr, rfl, hRr, hrne⟩ := hr
  have HneB := hid hT1.neB
  have Hne := hid hT1.ne
  have HC := hid hc
  have HR := hid hRr
  have HE := hid he
  have hlt1 := hT1.lt
  have hrl := hT1.len
  obtain ⟨c0, c1, c2, c3⟩ := cells4 hc
  have f3 := free4 hc 3
  have hkl : U.keys ≤ 1099511627776 := by have := hT1.inv.room; have := hT1.len; omega
  rcases place_cases hT1.inv k with ⟨i, hf, hp⟩ | ⟨i, hf, hp⟩ | ⟨hn, hp⟩
  · have HGv := hid (get_has (.int .i64 0) hT1.inv (Or.inl hf.ent))
    rw [hp] at HPl HPd
    simp only [if_true, Bool.false_eq_true, if_false] at HPl HPd
    obtain ⟨⟨x, hx⟩, hks⟩ := hT1.rok i hf.1
    rw [hx] at HGv
    obtain ⟨b0, b1, b2, b3⟩ := hRr.cells i hf.1
    rw [hx] at b3
    have g0 := hRr.free (i * 4)
    have g1 := hRr.free (i * 4 + 1)
    have g2 := hRr.free (i * 4 + 2)
    have g3 := hRr.free (i * 4 + 3)
    have hgl := hRr.lt
    obtain ⟨j, hj, hj0⟩ := hT1.inv.row_emp
    have hij : j ≠ i := by rintro rfl; rw [hf.2.1] at hj0; cases hj0
    have HKp : Hid (1 ≤ U.keys) := by
      have h1 := hT1.inv.keys
      have : 0 < cnt U.row := by
        unfold cnt
        rw [List.countP_pos_iff]
        exact ⟨U.row[i]'hf.1, List.getElem_mem hf.1, by have := hf.2.1; rw [at_get hf.1] at this; simp [this]⟩
      show 1 ≤ U.keys
      omega
    have hkp := HKp.out
    have t0 : (0 : Int) ≤ (i : Int) := by omega
    have t1 : (i : Int) < (U.row.length : Int) := by have := hf.1; omega
    have HFd := hid hf
    have HR0 := hid (hRr.set i hf.1 (pz (.int .i64 0)))
    have HV0 := hid (hT1.rok.set i (pz (.int .i64 0)) hf.1 okP_z)
    have HJ0 := hid (show (at' (U.row.set i (pz (.int .i64 0))) j).st = 0 by rw [at_set _ _ _ _ hf.1, if_neg (fun e => hij e.symm)]; exact hj0)
    have HD := hid (ds_lt (nx_lt hf.1) hj)
    have hn := nx_lt hf.1
    have HIJ := hid hij
    have HJ := hid hj
    have hi := hf.1
    have HI := hid hi
    have tn : ((U.row.length : Int) == 0) = false := by simp; omega
    have HNx := hid (show ((i : Int) + 1) % (U.row.length : Int) = (nx U.row.length i : Int) from by
      rw [← nx_mod hf.1]; rfl)
    have HgrB := hid (show B ≠ gr from fun e => HneB.out.1 e.symm)
    have hBg := HgrB.out
    have HLm := hid ((mend_spec (.int .i64 0) hf.1 hj hf.2.1 hj0 hT1.inv.prb hT1.inv.unq hT1.inv.st).1)
    have hr8 : 8 ≤ U.row.length := hT1.inv.pos
    have HSt := hid (hT1.inv.st)
    have HSt0 : Hid (∀ q, q < U.row.length → (at' (U.row.set i (pz (.int .i64 0))) q).st ≤ 1) := by
      intro q hq
      rw [at_set _ _ _ _ hf.1]
      split
      · show 0 ≤ 1
        omega
      · exact HSt.out q hq
    clear hc he hRr hT1 hf hp hx hks hj hj0 c1 c2
    go_wp2_with fail
    refine HPl.out.mono ?_
    rintro e w2 ⟨rfl, hw2⟩
    have hw2 := hw2.symm
    subst hw2
    go_wp2_with fail
    have HX : Hid (RowH (((((w1.setCell ⟨B, 3, none⟩ (.int .i64 ((U.keys : Int) - 1))).setCell ⟨gr, i * 4, none⟩ (.bool false)).setCell ⟨gr, i * 4 + 1, none⟩ (.bool false)).setCell ⟨gr, i * 4 + 2, none⟩ (.string ⟨#[]⟩)).setCell ⟨gr, i * 4 + 3, none⟩ (.int .i64 0)) gr (U.row.set i (pz (.int .i64 0))) restr ∧ Fr w1 (((((w1.setCell ⟨B, 3, none⟩ (.int .i64 ((U.keys : Int) - 1))).setCell ⟨gr, i * 4, none⟩ (.bool false)).setCell ⟨gr, i * 4 + 1, none⟩ (.bool false)).setCell ⟨gr, i * 4 + 2, none⟩ (.string ⟨#[]⟩)).setCell ⟨gr, i * 4 + 3, none⟩ (.int .i64 0)) (fun b => b = B ∨ b = gr) ∧ (((((w1.setCell ⟨B, 3, none⟩ (.int .i64 ((U.keys : Int) - 1))).setCell ⟨gr, i * 4, none⟩ (.bool false)).setCell ⟨gr, i * 4 + 1, none⟩ (.bool false)).setCell ⟨gr, i * 4 + 2, none⟩ (.string ⟨#[]⟩)).setCell ⟨gr, i * 4 + 3, none⟩ (.int .i64 0)).heap[B]? = some (.cells #[.slice (some ⟨gr, 0, none⟩) U.row.length capr, ev, .int .i64 (U.moved : Int), .int .i64 ((U.keys : Int) - 1)] 71 (0, 0))) := by
      have hS := set_fr w1 ⟨B, 3, none⟩ (.int .i64 ((U.keys : Int) - 1))
      have hD := set4w_fr (w1.setCell ⟨B, 3, none⟩ (.int .i64 ((U.keys : Int) - 1))) gr (i * 4) (pz (.int .i64 0)) (Fr.refl _ (fun b => b = gr)) (fun _ => rfl)
      refine ⟨(HR.out.fr hS (fun e => hBg e.symm)).set i HI.out (pz (.int .i64 0)), (hS.mono (T := fun b => b = B ∨ b = gr) (fun _ _ e => Or.inl e)).trans2 hD (fun _ _ e => Or.inr e), ?_⟩
      exact (hD.block B (by simp [World.setCell]; exact hlt1) (fun e => hBg e)).trans (set43 HC.out)
    generalize ((((w1.setCell ⟨B, 3, none⟩ (.int .i64 ((U.keys : Int) - 1))).setCell ⟨gr, i * 4, none⟩ (.bool false)).setCell ⟨gr, i * 4 + 1, none⟩ (.bool false)).setCell ⟨gr, i * 4 + 2, none⟩ (.string ⟨#[]⟩)).setCell ⟨gr, i * 4 + 3, none⟩ (.int .i64 0) = W2 at *
    have HR2 := hid HX.out.1
    have HF2 := hid HX.out.2.1
    have HC2 := hid HX.out.2.2
    clear HX HR0 b0 b1 b2 b3 g0 g1 g2 g3 c0 c3 f3
    rw [HNx.out]
    go_loopg [6, 11] U.row.length (fun gk s6 s11 wx => ∃ (i' k' : Nat) (R : List Pl), s6 = .int .i64 (i' : Int) ∧ s11 = .int .i64 (k' : Int) ∧ i' < U.row.length ∧ k' < U.row.length ∧ Hid (R.length = U.row.length) ∧ Hid (mendF (.int .i64 0) gk R i' k' = mendL (.int .i64 0) U.row i) ∧ Hid (ds U.row.length k' j < gk) ∧ Hid (j ≠ i') ∧ Hid ((at' R i').st = 0) ∧ Hid ((at' R j).st = 0) ∧ Hid (∀ q, q < U.row.length → (at' R q).st ≤ 1) ∧ Hid (Vok R) ∧ Hid (RowH wx gr R restr) ∧ Hid (Fr W2 wx (fun b => b = gr)))
    case atStart => exact ⟨i, nx U.row.length i, _, rfl, rfl, hi, hn, by show (U.row.set i (pz (.int .i64 0))).length = _; simp, by show mendF _ _ _ _ _ = mendL _ U.row i; rfl, HD, HIJ, by show (at' (U.row.set i (pz (.int .i64 0))) i).st = 0; rw [at_set _ _ _ _ hi, if_pos rfl]; rfl, HJ0, HSt0, HV0, HR2, Fr.refl _ _⟩
    case round =>
      obtain ⟨i', k', R, rfl, rfl, hi', hk', HLen, HMd, HDs, HIj, HRi, HRj, HSt', HV, HRw, HFw⟩ := hrel
      clear HD HIJ HJ0 HV0 HSt0 HNx
      have HCw := hid ((HFw.out.block B (lt_of_block HC2.out) (fun e => hBg e)).trans HC2.out)
      obtain ⟨c0, c1, c2, c3⟩ := cells4 HCw.out
      have lB := lt_of_block HCw.out
      have lG := HRw.out.lt
      clear c1 c2 c3
      have t2 : (0 : Int) ≤ (k' : Int) := by omega
      have t3 : (k' : Int) < (U.row.length : Int) := by omega
      have hkR : k' < R.length := by rw [HLen.out]; exact hk'
      have hiR : i' < R.length := by rw [HLen.out]; exact hi'
      obtain ⟨b0, b1, b2, b3⟩ := HRw.out.cells k' hkR
      have HNk := hid (show ((k' : Int) + 1) % (U.row.length : Int) = (nx U.row.length k' : Int) from by
        rw [← nx_mod hk']; rfl)
      cases gk with
      | zero => exact absurd HDs.out (Nat.not_lt_zero _)
      | succ f =>
        by_cases h0 : (at' R k').st = 0
        · have HE0 : Hid (R = mendL (.int .i64 0) U.row i) := by
            have := HMd.out
            unfold mendF at this
            rw [if_pos h0] at this
            exact this
          rw [(bt0 h0).1] at b0
          clear h0 b1 b2 b3
          go_wp2_with fail
          go_ret2
          rw [HVd.out, HGv.out]
          have hL := HLm.out
          rw [HPd.out] at HDi ⊢
          refine ⟨rfl, ⟨ge1, ⟨⟨_, _, by rw [show (((U.keys - 1 : Nat) : Int)) = (U.keys : Int) - 1 by omega]; exact HCw.out, ⟨capr, restr, by rw [hL], by rw [← HE0.out]; exact HRw.out, ?_⟩, (HE.out.fr HF2.out (fun g e e2 => by rcases e2 with e2 | e2; exact HneB.out.2 (by rw [e, e2]); exact Hne.out (by rw [e, e2]))).fr HFw.out (fun g e e2 => Hne.out (by rw [e, e2]))⟩, Hne.out, HDi.out.1.i0, by rw [← HE0.out]; exact HV.out, HT1.out.eok, by rw [hL]; exact hrl⟩, HGe.out⟩, HFm.out _ ((HF2.out.mono (fun b _ e => by rcases e with e | e; exact Or.inl e; exact Or.inr (Or.inl e))).trans2 HFw.out (fun b _ e => Or.inr (Or.inl e)))⟩
          intro e
          apply hrne
          apply List.eq_nil_of_length_eq_zero
          rw [← hL]
          simp only at e
          rw [e]; rfl
        · have h1 : (at' R k').st = 1 := by have := HSt'.out k' hk'; omega
          obtain ⟨⟨x', hx'⟩, hks⟩ := HV.out k' hkR
          have HHm := hid (fun W => rhome_any gr capr R (at' R k').key W hks (by omega) (by rw [HLen.out]; exact hrl))
          rw [HLen.out] at HHm
          have hhm : homeL R (at' R k').key < U.row.length := by have := homeL_lt (r := R) (at' R k').key (by omega); rw [HLen.out] at this; exact this
          have hkj : k' ≠ j := by rintro rfl; exact h0 HRj.out
          have hki : i' ≠ k' := by rintro rfl; exact h0 HRi.out
          have HN := hid (ds_nx hk' HJ.out hkj)
          have HBh := hid (fun W => behind_any U.row.length i' _ k' W hi' hhm hk' hki)
          rw [hx'] at b3
          rw [(bt1 h1).1] at b0
          rw [(bt1 h1).2] at b1
          by_cases hc : ds U.row.length (homeL R (at' R k').key) k' < ds U.row.length i' k'
          · have HM2 : Hid (mendF (.int .i64 0) f R i' (nx U.row.length k') = mendL (.int .i64 0) U.row i) := by
              have := HMd.out
              unfold mendF at this
              rw [if_neg h0, HLen.out, if_pos hc] at this
              exact this
            rw [show decide (ds U.row.length (homeL R (at' R k').key) k' < ds U.row.length i' k') = true by simpa using hc] at HBh
            clear h0 h1 hc hx' hhm
            generalize homeL R (at' R k').key = hm at *
            generalize (at' R k').key = key at *
            go_wp2_with fail
            go_quiet ((first
              | (go_at_call 76; exact Calls.quiet_of_same (HHm.out _))
              | (go_at_call 75; exact Calls.quiet_of_same (HBh.out _))))
            go_wp2_with fail
            go_roundg f
            case measure => omega
            case rel => exact ⟨i', nx U.row.length k', R, rfl, congrArg (Value.int .i64) HNk.out, hi', nx_lt hk', HLen, HM2, by have h5 := HN.out; have h6 := HDs.out; show ds U.row.length (nx U.row.length k') j < f; omega, HIj, HRi, HRj, HSt', HV, HRw, HFw.out.drewN _⟩
          · have HM2 : Hid (mendF (.int .i64 0) f ((R.set i' (at' R k')).set k' (pz (.int .i64 0))) k' (nx U.row.length k') = mendL (.int .i64 0) U.row i) := by
              have := HMd.out
              unfold mendF at this
              rw [if_neg h0, HLen.out, if_neg hc] at this
              exact this
            rw [show decide (ds U.row.length (homeL R (at' R k').key) k' < ds U.row.length i' k') = false by simpa using hc] at HBh
            have HKJ := hid (show j ≠ k' from fun e => hkj e.symm)
            have HPk : Hid (at' R k' = ⟨1, (at' R k').key, .int .i64 x'⟩) := by
              show at' R k' = _
              rw [← h1, ← hx']
            have t6 : (0 : Int) ≤ (i' : Int) := by omega
            have t7 : (i' : Int) < (U.row.length : Int) := by omega
            have HV2 := hid ((HV.out.set i' (at' R k') hiR (HV.out k' hkR)).set k' (pz (.int .i64 0)) (by simpa using hkR) okP_z)
            have HRB := hid (show (at' ((R.set i' (at' R k')).set k' (pz (.int .i64 0))) j).st = 0 by
              rw [at_set _ _ _ _ (by simpa using hkR), if_neg (fun e => HKJ.out e.symm), at_set _ _ _ _ hiR, if_neg (fun e => HIj.out e.symm)]; exact HRj.out)
            have HRk := hid (show (at' ((R.set i' (at' R k')).set k' (pz (.int .i64 0))) k').st = 0 by
              rw [at_set _ _ _ _ (by simpa using hkR), if_pos rfl]; rfl)
            have HLB := hid (show ((R.set i' (at' R k')).set k' (pz (.int .i64 0))).length = U.row.length by simpa using HLen.out)
            have HSB : Hid (∀ q, q < U.row.length → (at' ((R.set i' (at' R k')).set k' (pz (.int .i64 0))) q).st ≤ 1) := by
              intro q hq
              rw [at_set _ _ _ _ (by simpa using hkR)]
              split
              · show 0 ≤ 1
                omega
              · rw [at_set _ _ _ _ hiR]
                split
                · exact HSt'.out k' hk'
                · exact HSt'.out q hq
            obtain ⟨d0, d1, d2, d3⟩ := HRw.out.cells i' hiR
            have g0 := HRw.out.free (i' * 4)
            have g1 := HRw.out.free (i' * 4 + 1)
            have g2 := HRw.out.free (i' * 4 + 2)
            have g3 := HRw.out.free (i' * 4 + 3)
            clear h0 h1 hc hx' hhm
            rw [HPk.out] at HM2 HV2 HRB HRk HLB HSB
            generalize homeL R (at' R k').key = hm at *
            generalize (at' R k').key = key at *
            go_wp2_with fail
            go_quiet ((first
              | (go_at_call 76; exact Calls.quiet_of_same (HHm.out _))
              | (go_at_call 75; exact Calls.quiet_of_same (HBh.out _))))
            go_wp2_with fail
            go_region
            have HX : Hid (RowH (((((wr.drewN (nq + 1)).setCell ⟨gr, i' * 4, none⟩ (.bool true)).setCell ⟨gr, i' * 4 + 1, none⟩ (.bool false)).setCell ⟨gr, i' * 4 + 2, none⟩ (.string key)).setCell ⟨gr, i' * 4 + 3, none⟩ (.int .i64 x')) gr (R.set i' ⟨1, key, .int .i64 x'⟩) restr ∧ Fr wr (((((wr.drewN (nq + 1)).setCell ⟨gr, i' * 4, none⟩ (.bool true)).setCell ⟨gr, i' * 4 + 1, none⟩ (.bool false)).setCell ⟨gr, i' * 4 + 2, none⟩ (.string key)).setCell ⟨gr, i' * 4 + 3, none⟩ (.int .i64 x')) (fun b => b = gr)) := ⟨RowH.set (w := wr.drewN (nq + 1)) HRw.out i' hiR ⟨1, key, .int .i64 x'⟩, set4w_fr (wr.drewN (nq + 1)) gr (i' * 4) ⟨1, key, .int .i64 x'⟩ ((Fr.refl wr (fun b => b = gr)).drewN _) (fun _ => rfl)⟩
            generalize ((((wr.drewN (nq + 1)).setCell ⟨gr, i' * 4, none⟩ (.bool true)).setCell ⟨gr, i' * 4 + 1, none⟩ (.bool false)).setCell ⟨gr, i' * 4 + 2, none⟩ (.string key)).setCell ⟨gr, i' * 4 + 3, none⟩ (.int .i64 x') = W3 at *
            have HR3 := hid HX.out.1
            have HF3 := hid HX.out.2
            clear HX d0 d1 d2 d3 g0 g1 g2 g3 b0 b1 b2 b3 c0
            have HC3 := hid ((HF3.out.block B lB (fun e => hBg e)).trans HCw.out)
            obtain ⟨c0, c1, c2, c3⟩ := cells4 HC3.out
            clear c1 c2 c3
            have lB3 := lt_of_block HC3.out
            have lG3 := HR3.out.lt
            obtain ⟨d0, d1, d2, d3⟩ := HR3.out.cells k' (by simpa using hkR)
            have g0 := HR3.out.free (k' * 4)
            have g1 := HR3.out.free (k' * 4 + 1)
            have g2 := HR3.out.free (k' * 4 + 2)
            have g3 := HR3.out.free (k' * 4 + 3)
            go_wp2_with fail
            go_roundg f
            case measure => omega
            case rel => exact ⟨k', nx U.row.length k', (R.set i' ⟨1, key, .int .i64 x'⟩).set k' (pz (.int .i64 0)), rfl, congrArg (Value.int .i64) HNk.out, hk', nx_lt hk', HLB, HM2, by have h5 := HN.out; have h6 := HDs.out; show ds U.row.length (nx U.row.length k') j < f; omega, HKJ, HRk, HRB, HSB, HV2, HR3.out.set k' (by simpa using hkR) (pz (.int .i64 0)), set4w_fr W3 gr (k' * 4) (pz (.int .i64 0)) (HFw.out.trans2 HF3.out (fun _ _ e => e)) (fun _ => rfl)⟩
  · have HGv := hid (get_has (.int .i64 0) hT1.inv (Or.inr hf.ent))
    rw [hp] at HPl HPd
    simp only [if_true] at HPl HPd
    have hi := hf.1
    have hene : U.elder ≠ [] := by intro e; rw [e] at hi; simp at hi
    have hel := hT1.elen
    cases ge1 with
    | none => exact absurd he.1 hene
    | some g =>
      obtain ⟨cape, reste, rfl, hRe, _⟩ := he
      obtain ⟨⟨x, hx⟩, hks⟩ := hT1.eok i hf.1
      rw [hx] at HGv
      have hgl := hRe.lt
      have HRe := hid hRe
      obtain ⟨b0, b1, b2, b3⟩ := hRe.cells i hf.1
      rw [hx] at b3
      have g0 := hRe.free (i * 4)
      have g1 := hRe.free (i * 4 + 1)
      have g2 := hRe.free (i * 4 + 2)
      have g3 := hRe.free (i * 4 + 3)
      have t0 : (0 : Int) ≤ (i : Int) := by omega
      have t1 : (i : Int) < (U.elder.length : Int) := by omega
      have hBg : B ≠ g := fun e => HneB.out.2 (by rw [e])
      have HKp : Hid (1 ≤ U.keys) := by
        have h1 := hT1.inv.keys
        have : 0 < cnt U.elder := by
          unfold cnt
          rw [List.countP_pos_iff]
          exact ⟨U.elder[i]'hf.1, List.getElem_mem hf.1, by have := hf.2.1; rw [at_get hf.1] at this; simp [this]⟩
        show 1 ≤ U.keys
        omega
      have hkp := HKp.out
      have HFd := hid hf
      clear hc hRr hRe hT1 hf hp hx hks hi c2 c0
      go_wp2_with fail
      refine HPl.out.mono ?_
      rintro e w2 ⟨rfl, hw2⟩
      have hw2 := hw2.symm
      subst hw2
      go_wp2_with fail
      go_ret2
      rw [HVd.out, HGv.out]
      have hS := set_fr w1 ⟨B, 3, none⟩ (.int .i64 ((U.keys : Int) - 1))
      have hf3 := set4w_fr (w1.setCell ⟨B, 3, none⟩ (.int .i64 ((U.keys : Int) - 1))) g (i * 4) (pg (.int .i64 0)) (Fr.refl _ (fun b => b = g)) (fun _ => rfl)
      have hR3 := (HRe.out.fr hS (fun e => hBg e.symm)).set i HFd.out.1 (pg (.int .i64 0))
      have HS := hid hS
      have HF3 := hid hf3
      have HR3 := hid hR3
      have hL : (U.elder.set i (pg (.int .i64 0))).length = U.elder.length := by simp
      rw [HPd.out] at HDi ⊢
      have hC3 := (HF3.out.block B (by simp [World.setCell]; exact hlt1) (fun e => HneB.out.2 (by rw [e]))).trans (set43 (u := .int .i64 ((U.keys : Int) - 1)) HC.out)
      refine ⟨rfl, ⟨some g, ⟨⟨_, _, by rw [show (((U.keys - 1 : Nat) : Int)) = (U.keys : Int) - 1 by omega]; exact hC3, ⟨capr, restr, rfl, (HR.out.fr HS.out HneB.out.1).fr HF3.out (fun e => Hne.out (by rw [e])), hrne⟩, ⟨cape, reste, by rw [hL], HR3.out, ?_⟩⟩, Hne.out, HDi.out.1.i0, HT1.out.rok, HT1.out.eok.set i _ HFd.out.1 okP_g, hrl⟩, HGe.out⟩, HFm.out _ ((HS.out.mono (fun b _ e => Or.inl e)).trans2 HF3.out (fun b _ e => Or.inr (Or.inr (by rw [e]))))⟩
      intro e
      apply hene
      apply List.eq_nil_of_length_eq_zero
      rw [← hL]
      simp only at e
      rw [e]; rfl
  · have HGv := hid (get_none (.int .i64 0) hT1.inv hn)
    rw [hp] at HPl HPd
    simp only [Bool.false_eq_true, if_false] at HPl HPd
    clear hc he hRr hT1 hp hn c0 c1 c2 c3
    go_wp2_with fail
    refine HPl.out.mono ?_
    rintro e w2 ⟨rfl, hw2⟩
    have hw2 := hw2.symm
    subst hw2
    go_wp2_with fail
    go_ret2
    rw [HVd.out, HGv.out, HPd.out]
    exact ⟨rfl, ⟨ge1, HT1.out, HGe.out⟩, HFm.out _ (Fr.refl _ _)⟩
end Go.Proofs.Ytobigmcklecbnaa
