/- AggOrders returns true for every two rows of int64, which read afterwards as before; no conditions. -/
import Derived.Test.YtmfkccdlblebjabAKnown
import Derived.Test.YtmfkccdlblebjabAOrd
import Derived.Test.YtmfkccdlblebjabAMerge
import Derived.Test.YtmfkccdlblebjabAIs
import Derived.ProofKit
import Derived.OpenShut
import Derived.Below
import Derived.WalkSmall
import Derived.Deep.RegionHeld3
import Derived.Deep.QuietTactic
import Derived.BigQuiet
import Derived.Deep.DeepMust
import Derived.OwnWalk
import Derived.Deep.DeepCutAuto
namespace Go.Proofs.Ytmfkccdlblebjab
open Go.ChangeShapes Go.WideShapes Go.ChangeAt Go.RowKit

theorem keepOrd {w W : World} {X Y : Nat} {a : Ag} {L : List (Nat × Obj)} (h : SB w ((Y, agO a) :: (X, agO a) :: L) W) :
    Hid (SB w ((Y, agO a) :: (X, agO a) :: L) W) ∧ (W.cell? ⟨X, 0, none⟩ = some (.int .i64 a.c) ∧ W.cell? ⟨X, 1, none⟩ = some (.int .i64 a.s) ∧ W.cell? ⟨X, 2, none⟩ = some (.int .i64 a.lo) ∧ W.cell? ⟨X, 3, none⟩ = some (.int .i64 a.hi)) ∧ (W.cell? ⟨Y, 0, none⟩ = some (.int .i64 a.c) ∧ W.cell? ⟨Y, 1, none⟩ = some (.int .i64 a.s) ∧ W.cell? ⟨Y, 2, none⟩ = some (.int .i64 a.lo) ∧ W.cell? ⟨Y, 3, none⟩ = some (.int .i64 a.hi)) :=
  ⟨h, sb_ag h (by simp), sb_ag h (by simp)⟩

set_option maxHeartbeats 4000000 in
set_option maxRecDepth 100000 in
theorem orders_walk (va vb : Value) (xs ys : List Int) (w : World) (hva : Is w va xs) (hvb : Is w vb ys) (hna : Nz va) (hnb : Nz vb) :
    Calls Try.prog 3 #[va, vb] w fun e w' => e = .returned (.bool true) ∧ Fr w w' (fun _ => False) := by
  obtain ⟨ao, acap, rfl, halen, hafit, _⟩ := id hva
  obtain ⟨bo, bcap, rfl, hblen, hbfit, _⟩ := id hvb
  have HVA := hid hva
  have HVB := hid hvb
  have HFA := hid hafit
  have HFB := hid hbfit
  have HNA := hid hna
  have HNB := hid hnb
  clear hva hvb hafit hbfit hna hnb
  go_enter Try.func3, Try.ntmps3
  go_wp2_with fail
  refine (known_any _).mono ?_
  rintro e w1 ⟨rfl, hf1⟩
  have HF1 := hid hf1
  clear hf1
  by_cases h5 : 5000 < xs.length
  · have t1 : (5000 : Int) < (xs.length : Int) := by omega
    go_wp2_with fail
    go_ret
    exact ⟨rfl, HF1.out⟩
  have t1 : ¬ (5000 : Int) < (xs.length : Int) := by omega
  by_cases h6 : 5000 < ys.length
  · have t2 : (5000 : Int) < (ys.length : Int) := by omega
    go_wp2_with fail
    go_ret
    exact ⟨rfl, HF1.out⟩
  have t2 : ¬ (5000 : Int) < (ys.length : Int) := by omega
  have HA : Hid (SB w [] w1) := ⟨fun q hq => by simp at hq, HF1.out⟩
  clear HF1
  go_wp2_with fail
  refine (fold_any _ xs w1 (HVA.out.fr HA.out.2)).mono ?_
  rintro e w2 ⟨hf2, hr2⟩
  have HA := hid (HA.out.step hf2)
  clear hf2
  cases hfo : foldE Ag.zero xs with
  | error p =>
    rw [hfo] at hr2
    obtain ⟨o2, rfl, _, _⟩ := hr2
    clear hfo
    unfold overV
    have HA := hid (HA.out.new (agO Ag.zero))
    go_wp2_with fail
    refine (fold_any _ ys _ (HVB.out.fr HA.out.2)).mono ?_
    rintro e w3 ⟨hf3, hr3⟩
    have HA := hid (HA.out.step hf3)
    clear hf3
    have HIS := hid (fun W : World => is_over o2 W)
    cases hfo : foldE Ag.zero ys with
    | error q =>
      rw [hfo] at hr3
      obtain ⟨o3, rfl, _, _⟩ := hr3
      clear hfo
      unfold overV
      go_wp2_with fail
      refine (HIS.out _).mono ?_
      rintro e w4 ⟨rfl, rfl⟩
      go_wp2_with fail
      go_ret
      exact ⟨rfl, HA.out.2.alloc _⟩
    | ok b =>
      rw [hfo] at hr3
      have hr3 := hr3.symm
      subst hr3
      have HRB := hid (fun W : World => right_any b (foldE_ok HFB.out hfo) W)
      rw [show rightB b.c b.s b.lo b.hi = true from by rw [foldE_stat hfo]; exact fine_right (fine_stat ys)] at HRB
      clear hfo
      go_wp2_with fail
      refine (HRB.out _).mono ?_
      rintro e w4 ⟨rfl, hf4⟩
      have HF4 := hid ((HA.out.2.alloc _).trans hf4)
      clear hf4
      go_wp2_with fail
      refine (HIS.out _).mono ?_
      rintro e w5 ⟨rfl, rfl⟩
      go_wp2_with fail
      go_ret
      exact ⟨rfl, HF4.out⟩
  | ok a =>
    rw [hfo] at hr2
    have hr2 := hr2.symm
    subst hr2
    have HSA := hid (foldE_stat hfo)
    have HKA := hid (foldE_ok HFA.out hfo)
    have HRA := hid (fun W : World => right_any a HKA.out W)
    rw [show rightB a.c a.s a.lo a.hi = true from by rw [HSA.out]; exact fine_right (fine_stat xs)] at HRA
    clear hfo
    have HA := hid (HA.out.new (agO a))
    go_wp2_with fail
    refine (fold_any _ ys _ (HVB.out.fr HA.out.2)).mono ?_
    rintro e w3 ⟨hf3, hr3⟩
    have hz3 : w2.heap.size < w3.heap.size := by have := hf3.size; simp at this; omega
    have HA := hid (HA.out.step hf3)
    clear hf3
    obtain ⟨c0, c1, c2, c3⟩ := sb_ag HA.out (a := a) (B := w2.heap.size) (by simp)
    cases hfo : foldE Ag.zero ys with
    | error q =>
      rw [hfo] at hr3
      obtain ⟨o3, rfl, _, _⟩ := hr3
      clear hfo
      unfold overV
      have HIN := hid (fun W : World => is_nil 25 W)
      have HIS := hid (fun W : World => is_over o3 W)
      go_wp2_with fail
      refine (HRA.out _).mono ?_
      rintro e w4 ⟨rfl, hf4⟩
      have HF4 := hid ((HA.out.2.alloc _).trans hf4)
      clear hf4
      go_wp2_with fail
      refine (HIN.out _).mono ?_
      rintro e w5 ⟨rfl, rfl⟩
      go_wp2_with fail
      refine (HIS.out _).mono ?_
      rintro e w5 ⟨rfl, rfl⟩
      go_wp2_with fail
      go_ret
      exact ⟨rfl, HF4.out⟩
    | ok b =>
      rw [hfo] at hr3
      have hr3 := hr3.symm
      subst hr3
      have HSB := hid (foldE_stat hfo)
      have HKB := hid (foldE_ok HFB.out hfo)
      have HRB := hid (fun W : World => right_any b HKB.out W)
      rw [show rightB b.c b.s b.lo b.hi = true from by rw [HSB.out]; exact fine_right (fine_stat ys)] at HRB
      clear hfo
      have HA := hid (HA.out.new (agO b))
      go_wp2_with fail
      refine (HRA.out _).mono ?_
      rintro e w4 ⟨rfl, hf4⟩
      have hz4 : w3.heap.size < w4.heap.size := by have := hf4.size; simp at this; omega
      have HA := hid (HA.out.step hf4)
      clear hf4 c0 c1 c2 c3
      obtain ⟨c0, c1, c2, c3⟩ := sb_ag HA.out (a := a) (B := w2.heap.size) (by simp)
      obtain ⟨d0, d1, d2, d3⟩ := sb_ag HA.out (a := b) (B := w3.heap.size) (by simp)
      go_wp2_with fail
      refine (HRB.out _).mono ?_
      rintro e w5 ⟨rfl, hf5⟩
      have hz5 : w3.heap.size < w5.heap.size := by have := hf5.size; omega
      have HA := hid (HA.out.step hf5)
      clear hf5 c0 c1 c2 c3 d0 d1 d2 d3 hz4
      obtain ⟨c0, c1, c2, c3⟩ := sb_ag HA.out (a := a) (B := w2.heap.size) (by simp)
      obtain ⟨d0, d1, d2, d3⟩ := sb_ag HA.out (a := b) (B := w3.heap.size) (by simp)
      have HM1 := hid (fun W : World => merge_any a b HKA.out HKB.out W)
      have HM2 := hid (fun W : World => merge_any b a HKB.out HKA.out W)
      go_wp2_with fail
      refine (HM1.out _).mono ?_
      rintro e w6 ⟨hf6, hr6⟩
      have hz6 : w3.heap.size < w6.heap.size := by have := hf6.size; omega
      have HA := hid (HA.out.step hf6)
      clear hf6 c0 c1 c2 c3 d0 d1 d2 d3 hz5 HM1
      obtain ⟨c0, c1, c2, c3⟩ := sb_ag HA.out (a := a) (B := w2.heap.size) (by simp)
      obtain ⟨d0, d1, d2, d3⟩ := sb_ag HA.out (a := b) (B := w3.heap.size) (by simp)
      have hz26 : w2.heap.size < w6.heap.size := by omega
      cases hme : mergeE a b with
      | error p =>
        obtain ⟨q, hq⟩ : ∃ q, mergeE b a = .error q := by rw [HSA.out, HSB.out] at hme ⊢; exact merge_swap_err hme
        rw [hme] at hr6
        rw [hq] at HM2
        obtain ⟨o6, rfl, _, _⟩ := hr6
        clear hme hq
        unfold overV
        have HA := hid (HA.out.new (agO Ag.zero))
        go_wp2_with fail
        refine (HM2.out _).mono ?_
        rintro e w7 ⟨hf7, o7, rfl, _, _⟩
        have hz7 : w6.heap.size < w7.heap.size := by have := hf7.size; simp at this; omega
        have HA := hid ((HA.out.step hf7).new (agO Ag.zero))
        clear hf7 c0 c1 c2 c3 d0 d1 d2 d3 HM2
        unfold overV
        go_upto_region 13 with fail
        go_cut [95] (fun s wx => s = .bool false ∧ Hid (SB w [(w7.heap.size, agO Ag.zero), (w6.heap.size, agO Ag.zero), (w3.heap.size, agO b), (w2.heap.size, agO a)] wx))
        case first =>
          have HW : Hid (SB w [(w7.heap.size, agO Ag.zero), (w6.heap.size, agO Ag.zero), (w3.heap.size, agO b), (w2.heap.size, agO a)] (w7.alloc (.cells #[.int .i64 0, .int .i64 0, .int .i64 0, .int .i64 0] 25))) := HA.out
          generalize w7.alloc (.cells #[.int .i64 0, .int .i64 0, .int .i64 0, .int .i64 0] 25) = W7 at *
          obtain ⟨_, ⟨x0, x1, x2, x3⟩, y0, y1, y2, y3⟩ := keepOrd HW.out
          go_quiet (fail)
          go_wp2_with fail
          go_meet
          exact ⟨rfl, hid (HW.out.step ((Fr.refl W7 _).drewN _))⟩
        case rest =>
          obtain ⟨rfl, HA⟩ := hcut
          have HL := hid (lit_empty wc)
          have HSX := hid (HA.out.alloc (.cells #[] 2))
          have hwc : wc.heap.size ≤ (wc.alloc (.cells #[] 2)).heap.size := by simp
          have HI1 := hid (HVA.out.fr HSX.out.2)
          go_wp2_with (at_builtin; go_must (refine append_is rfl (.tmp 97) (.tmp 98) rfl wc.heap.size _ 0 [] rfl HL.out (.slice ao xs.length acap) xs rfl HI1.out HNA.out (by omega) hwc ?_))
          intro v8 w8 hown8 hg8
          have HS8 := hid (SB.grow HA.out HSX.out hg8 (fun k h => by simp [Value.ownBlock] at h; omega))
          obtain ⟨ao8, cap8, rfl⟩ := own_nil_shape hown8
          have HO8 := hid hown8
          have hw8 : wc.heap.size ≤ w8.heap.size := Nat.le_trans hwc hg8.size
          have HI2 := hid (HVB.out.fr HS8.out.2)
          clear hown8 hg8 HL HSX HI1
          go_wp2_with (at_builtin; go_must (refine append_is rfl (.tmp 99) (.tmp 100) rfl wc.heap.size _ xs.length (iv xs) rfl HO8.out (.slice bo ys.length bcap) ys rfl HI2.out HNB.out (by omega) hw8 ?_))
          intro v9 w9 hown9 hg9
          rw [← iv_append] at hown9
          have HS9 := hid (SB.grow HA.out HS8.out hg9 (fun k h => (HO8.out.lt k h).1))
          have HI9 := hid (own_is hown9 (fun x hx => (List.mem_append.1 hx).elim (HFA.out x) (HFB.out x)) (by simp; omega))
          obtain ⟨ao9, cap9, rfl⟩ := own_nil_shape hown9
          clear hown9 hg9 HO8 HI2 HS8 hw8 hwc
          go_wp2_with fail
          refine (fold_any _ (xs ++ ys) w9 HI9.out).mono ?_
          rintro e w10 ⟨hf10, hr10⟩
          have HS10 := hid (HS9.out.step hf10)
          clear hf10
          cases hfo : foldE Ag.zero (xs ++ ys) with
          | error p10 =>
            rw [hfo] at hr10
            obtain ⟨o10, rfl, _, _⟩ := hr10
            clear hfo
            unfold overV
            go_wp2_with fail
            go_ret
            exact ⟨rfl, HS10.out.2.alloc _⟩
          | ok z =>
            rw [hfo] at hr10
            have hr10 := hr10.symm
            subst hr10
            clear hfo
            go_wp2_with fail
            go_ret
            exact ⟨rfl, HS10.out.2.alloc _⟩
      | ok m =>
        have hmw : mergeE b a = .ok m := by rw [HSA.out, HSB.out] at hme ⊢; exact merge_swap_ok hme
        rw [hme] at hr6
        rw [hmw] at HM2
        have hr6 := hr6.symm
        subst hr6
        have HMS : Hid (m = stat (xs ++ ys)) := by rw [HSA.out, HSB.out] at hme; exact merge_stat hme
        have HKM := hid (mergeE_ok HKA.out HKB.out hme)
        have HRM := hid (fun W : World => right_any m HKM.out W)
        rw [show rightB m.c m.s m.lo m.hi = true from by rw [HMS.out]; exact fine_right (fine_stat _)] at HRM
        clear hme hmw
        have HA := hid (HA.out.new (agO m))
        go_wp2_with fail
        refine (HM2.out _).mono ?_
        rintro e w7 ⟨hf7, rfl⟩
        have hz7 : w6.heap.size < w7.heap.size := by have := hf7.size; simp at this; omega
        have HA := hid ((HA.out.step hf7).new (agO m))
        clear hf7 c0 c1 c2 c3 d0 d1 d2 d3 HM2
        go_upto_region 13 with fail
        go_cut [95] (fun s wx => s = .bool false ∧ Hid (SB w [(w7.heap.size, agO m), (w6.heap.size, agO m), (w3.heap.size, agO b), (w2.heap.size, agO a)] wx))
        case first =>
          have HW : Hid (SB w [(w7.heap.size, agO m), (w6.heap.size, agO m), (w3.heap.size, agO b), (w2.heap.size, agO a)] (w7.alloc (.cells #[.int .i64 m.c, .int .i64 m.s, .int .i64 m.lo, .int .i64 m.hi] 25))) := HA.out
          generalize w7.alloc (.cells #[.int .i64 m.c, .int .i64 m.s, .int .i64 m.lo, .int .i64 m.hi] 25) = W7 at *
          clear HA
          have HA := HW
          clear HW
          generalize w7.heap.size = Y at *
          generalize w6.heap.size = X at *
          go_region_held3 (fun W' => Hid (SB w [(Y, agO m), (X, agO m), (w3.heap.size, agO b), (w2.heap.size, agO a)] W') ∧ (W'.cell? ⟨X, 0, none⟩ = some (.int .i64 m.c) ∧ W'.cell? ⟨X, 1, none⟩ = some (.int .i64 m.s) ∧ W'.cell? ⟨X, 2, none⟩ = some (.int .i64 m.lo) ∧ W'.cell? ⟨X, 3, none⟩ = some (.int .i64 m.hi)) ∧ (W'.cell? ⟨Y, 0, none⟩ = some (.int .i64 m.c) ∧ W'.cell? ⟨Y, 1, none⟩ = some (.int .i64 m.s) ∧ W'.cell? ⟨Y, 2, none⟩ = some (.int .i64 m.lo) ∧ W'.cell? ⟨Y, 3, none⟩ = some (.int .i64 m.hi)))
            ((refine keepOrd ?_; repeat (first | exact HA.out | apply SB.drew | apply SB.alloc)))
            (first
              | (go_at_call 9; refine (HRM.out _).mono ?_; rintro e v1 ⟨rfl, hf⟩; have HA := hid (SB.step (by repeat (first | exact HA.out | apply SB.drew | apply SB.alloc)) hf); clear hf))
          all_goals (go_wp2_with fail)
          all_goals go_meet
          all_goals exact ⟨rfl, HA⟩
        case rest =>
          obtain ⟨rfl, HA⟩ := hcut
          have HL := hid (lit_empty wc)
          have HSX := hid (HA.out.alloc (.cells #[] 2))
          have hwc : wc.heap.size ≤ (wc.alloc (.cells #[] 2)).heap.size := by simp
          have HI1 := hid (HVA.out.fr HSX.out.2)
          go_wp2_with (at_builtin; go_must (refine append_is rfl (.tmp 97) (.tmp 98) rfl wc.heap.size _ 0 [] rfl HL.out (.slice ao xs.length acap) xs rfl HI1.out HNA.out (by omega) hwc ?_))
          intro v8 w8 hown8 hg8
          have HS8 := hid (SB.grow HA.out HSX.out hg8 (fun k h => by simp [Value.ownBlock] at h; omega))
          obtain ⟨ao8, cap8, rfl⟩ := own_nil_shape hown8
          have HO8 := hid hown8
          have hw8 : wc.heap.size ≤ w8.heap.size := Nat.le_trans hwc hg8.size
          have HI2 := hid (HVB.out.fr HS8.out.2)
          clear hown8 hg8 HL HSX HI1
          go_wp2_with (at_builtin; go_must (refine append_is rfl (.tmp 99) (.tmp 100) rfl wc.heap.size _ xs.length (iv xs) rfl HO8.out (.slice bo ys.length bcap) ys rfl HI2.out HNB.out (by omega) hw8 ?_))
          intro v9 w9 hown9 hg9
          rw [← iv_append] at hown9
          have HS9 := hid (SB.grow HA.out HS8.out hg9 (fun k h => (HO8.out.lt k h).1))
          have HI9 := hid (own_is hown9 (fun x hx => (List.mem_append.1 hx).elim (HFA.out x) (HFB.out x)) (by simp; omega))
          obtain ⟨ao9, cap9, rfl⟩ := own_nil_shape hown9
          clear hown9 hg9 HO8 HI2 HS8 hw8 hwc
          go_wp2_with fail
          refine (fold_any _ (xs ++ ys) w9 HI9.out).mono ?_
          rintro e w10 ⟨hf10, hr10⟩
          have HS10 := hid (HS9.out.step hf10)
          clear hf10
          cases hfo : foldE Ag.zero (xs ++ ys) with
          | error p10 =>
            rw [hfo] at hr10
            obtain ⟨o10, rfl, _, _⟩ := hr10
            clear hfo
            unfold overV
            go_wp2_with fail
            go_ret
            exact ⟨rfl, HS10.out.2.alloc _⟩
          | ok z =>
            rw [hfo] at hr10
            have hr10 := hr10.symm
            subst hr10
            have hzm : z = m := by rw [HMS.out]; exact foldE_stat hfo
            subst hzm
            clear hfo
            obtain ⟨c0, c1, c2, c3⟩ := sb_ag HS10.out (a := z) (B := w6.heap.size) (by simp)
            have hz10 : w6.heap.size < w10.heap.size := lt_of_block (HS10.out.1 (w6.heap.size, agO z) (by simp))
            go_wp2_with fail
            go_ret
            exact ⟨rfl, HS10.out.2.alloc _⟩

set_option maxRecDepth 100000 in
theorem orders_lifted (os : Os) (started : os.Started) (H : Type) (enc : TypeId × Value → H) :
    ReturnsInHanded {} Try.checked os 3 .any (Rows.aggOrdersSpec.pre6 enc Try.prog Try.f3 Rows.aggOrdersRow.domain false) (Rows.aggOrdersSpec.post enc Try.prog Try.f3 false true false false) := by
  refine returnsInHanded_of_change_sized (C := Try.checked) argOwn started (by kernel_rfl) Try.func3
    (ChangeSpec.witness6 (enc := enc) (C := Try.checked) false ⟨#[], #[.slice none 0 0, .slice none 0 0], []⟩ 8 (by kernel_rfl) (by kernel_rfl) (by kernel_rfl) (by kernel_rfl)) ?_
  intro W base args ds gs before hval0 hW _ hsz0 _
  have hsz : (DataW.weightsEach Try.prog (Try.f3.params.toList ++ Rows.aggOrdersSpec.plain.varTypes Try.prog) (ds ++ gs)).all (· ≤ reachBytes) = true := hsz0
  clear hsz0
  have hval : ∀ (j : Nat) t v, Try.f3.params[j]? = some t → args[j]? = some v → Value.okWide Try.prog W .any base t v := hval0
  have hW' := hW
  obtain ⟨p, q, hA0, hV, rfl, _, _⟩ := hW
  have hA : DataW.TrodAll enc Try.prog W 0 (fun _ => true) true Try.f3.params.toList args.toList ds p := hA0
  rw [Try.params3] at hA hval hsz
  obtain ⟨v0, v1, d0, d1, p0, p1, rfl, rfl, rfl, h0, h1⟩ := trodAll_two hA
  obtain ⟨rfl, rfl⟩ := trodVars_none hV
  obtain ⟨a0, len0, cap0, rfl⟩ := okWide_slice Try.underlying22 (hval 0 22 v0 rfl rfl)
  obtain ⟨a1, len1, cap1, rfl⟩ := okWide_slice Try.underlying22 (hval 1 22 v1 rfl rfl)
  have k0 := h0
  have k1 := h1
  have lt0 : ∀ x ∈ p0, x.block < W.heap.size := by obtain ⟨m, hm⟩ := k0; exact DataW.trod_lt m _ _ _ hm
  have lt1 : ∀ x ∈ p1, x.block < W.heap.size := by obtain ⟨m, hm⟩ := k1; exact DataW.trod_lt m _ _ _ hm
  obtain ⟨f0, hf0⟩ := h0
  obtain ⟨f1, hf1⟩ := h1
  have hf0' : DataW.trod enc Try.prog W 0 (fun _ => true) true f0 22 [.slice a0 len0 cap0] = some (d0, p0) := by simpa [Value.cells] using hf0
  have hf1' : DataW.trod enc Try.prog W 0 (fun _ => true) true f1 22 [.slice a1 len1 cap1] = some (d1, p1) := by simpa [Value.cells] using hf1
  have hl0 := len_of_trod Try.underlying22 (by rw [Try.bytes_i64]; decide) hf0' hsz (j := 0) rfl rfl
  have hl1 := len_of_trod Try.underlying22 (by rw [Try.bytes_i64]; decide) hf1' hsz (j := 1) rfl rfl
  obtain ⟨xs, hxs⟩ := is_of_trod hf0' hl0
  obtain ⟨ys, hys⟩ := is_of_trod hf1' hl1
  clear hA0 hval0
  refine (orders_walk _ _ xs ys W hxs hys (nz_of_trod hf0') (nz_of_trod hf1')).mono fun e W' ⟨he, hf⟩ => ?_
  subst he
  have bel : Below W.heap.size W W' := hf.below (Nat.le_refl _) (fun _ h => h.elim)
  exact ⟨_, rfl, _, _, _, [], _, [], hW', trodAll_mk1 (shut_bool Try.underlying4 _), trodAll_mk2 (Below.trod argLaid (by kernel_rfl) (of_decide_eq_true (by kernel_rfl)) k0 bel lt0) (Below.trod argLaid (by kernel_rfl) (of_decide_eq_true (by kernel_rfl)) k1 bel lt1), rfl, bel.frame _, fun h => by cases h⟩

theorem orders_over : Rows.aggOrdersRow.holds Try.pinned (OpenSpec.ofChange Rows.aggOrdersSpec) :=
  OpenClaim.holds_of_wide 3 Try.f3 rfl rfl rfl rfl rfl rfl rfl ⟨rfl, rfl, rfl, rfl, rfl⟩ rfl rfl rfl rfl rfl (by kernel_rfl) Try.func3 (by kernel_rfl)
    (of_decide_eq_true (by kernel_rfl)) (by unfold Func.isWrapper; first | (rw [if_pos (by decide +kernel)]; kernel_rfl) | (rw [if_neg (by decide +kernel)]; exact ⟨rfl, rfl⟩))
    (fun os started H enc _ => orders_lifted os started H enc)

theorem aggOrders_holds : Rows.AggOrdersSaid := orders_over
#print axioms aggOrders_holds
end Go.Proofs.Ytmfkccdlblebjab
