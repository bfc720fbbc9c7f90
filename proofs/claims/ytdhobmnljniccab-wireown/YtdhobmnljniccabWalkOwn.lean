/- WireOwn: the walk. -/
import Derived.Test.YtdhobmnljniccabHead
import Derived.Test.YtdhobmnljniccabOwn1
import Derived.WalkSmall
import Derived.BigQuiet
import Derived.Deep.DeepCutAuto
namespace Go.Proofs.Ytdhobmnljniccab
open Go.RowKit
attribute [local go_sem ↓] Go.wp_at_zero Go.wp_at_succ

theorem convO {W : World} {v : Value} {xs : List Nat} (h : Bs W v xs) : (convert 24 9 v).run Try.prog W = .ok (.string (str8 xs)) W :=
  run_str8 Try.underlying24 Try.underlying5 Try.underlying9 h

set_option maxHeartbeats 800000 in
set_option maxRecDepth 100000 in
/-- Frame, of a body of whatever length. -/
theorem frame_every (sv : Value) (xs : List Nat) (w : World) (hs : Bs w sv xs) :
    Calls Try.prog 24 #[sv] w fun e w' => FramePost w xs e w' := by
  by_cases hl : xs.length ≤ 140737488355328
  · exact frame_any sv xs w hs hl
  · obtain ⟨ao, cap, rfl⟩ := slice_shape hs
    have HX : Hid (¬ (1 ≤ xs.length ∧ xs.length ≤ 65536)) := by
      intro h
      omega
    have t1 : ¬ (xs.length : Int) < 1 := by omega
    have t2 : (65536 : Int) < (xs.length : Int) := by omega
    clear hl hs
    generalize hn : xs.length = n at *
    have HN := hid hn
    clear hn
    go_enter Try.func24, Try.ntmps24
    go_wp2
    go_ret2
    exact ⟨_, Fr.refl _ _, Or.inr ⟨by rw [HN.out]; exact HX.out, rfl, rfl⟩⟩

set_option maxHeartbeats 4000000 in
set_option maxRecDepth 100000 in
theorem own_walk (bv lv : Value) (bs : List (List Nat)) (ln : Nat) (w : World) (hbs : Bss w bv bs) (hlv : ∃ lao lcap, lv = .slice lao ln lcap) (hln : ln ≤ 9223372036854775807) (hbl : bs.length ≤ 140737488355328) (hb8 : ∀ g ∈ bs, ∀ j, g.getD j 0 < 256) :
    Calls Try.prog 6 #[bv, lv] w fun e w' => e = .returned (.bool true) ∧ Below w.heap.size w w' := by
  obtain ⟨i0, hi, hz0, hz1, hz2⟩ := info_parts Try.info5
  obtain ⟨i4, hi4, hz40, hz41, hz42⟩ := info_parts Try.info24
  obtain ⟨bao, bcap, rfl, hbcell⟩ := hbs
  obtain ⟨lao, lcap, rfl⟩ := hlv
  have HBC := hid hbcell
  have HB8 := hid hb8
  clear hbcell hb8
  go_enter Try.func6, Try.ntmps6
  go_wp2_with fail
  refine (new_ok 65536 _ (by omega) (by omega)).mono ?_
  rintro e w1 ⟨rfl, hz1', hf1, hl1⟩
  have HZ1 := hid hz1'
  have HF1 := hid hf1
  clear hz1' hf1
  go_wp2_with fail
  refine (new_ok 65536 _ (by omega) (by omega)).mono ?_
  rintro e w2 ⟨rfl, hz2', hf2, hl2⟩
  have HO0 : Hid (O1 w w1.heap.size (.slice none 0 0) (.slice none 0 0) [] 0 [] (.slice none 0 0) (.slice none 0 0) [] [] [] [] w2) :=
    ⟨HZ1.out.fr hf2 (fun h => h) (fun _ _ h => h), ⟨hz2'.cell, World.ownsRow_nil _ _ _ _, by simp, by simp, by simp, by omega, by simp⟩, World.ownsRow_nil _ _ _ _, World.ownsRow_nil _ _ _ _, fun k hk => by simp [Value.ownBlock] at hk, fun k hk => by simp [Value.ownBlock] at hk, rfl, Kp.nil _ _ _, fun i hi => by simp at hi, rfl, fun i hi => by simp at hi, fun i hi => by simp at hi, fun i hi => by simp at hi, by omega, (HF1.out.trans hf2).below (Nat.le_refl _) (fun _ h => h.elim)⟩
  have hsz2 : w1.heap.size < w2.heap.size := hl2
  clear hz2' hf2 HZ1 HF1 hl2
  generalize w1.heap.size = G at *
  go_wp2_with fail
  go_loopw [9, 10, 11] (fun kv wv i wx => ∃ (q : Nat) (vx vy : Value) (fed : List Nat) (told : Nat) (fy : List Nat) (Vs Us : List Value) (ks : List (List Nat)), q ≤ bs.length ∧ q ≤ 20 ∧ i = .int .i64 (q : Int) ∧ Hid (O1 w G vx vy fed told fy kv wv Vs Us ks ks wx) ∧ Hid (fed.drop told = []) ∧ fed.length ≤ 70000 * q ∧ fy.length ≤ q ∧ ks.length ≤ q) (fun _ _ i _ => 20 - (intOf i).toNat)
  case atStart => exact ⟨0, _, _, [], 0, [], [], [], [], Nat.zero_le _, by omega, rfl, HO0, rfl, by simp, by simp, by simp⟩
  case round =>
    obtain ⟨q, vx, vy, fed, told, fy, Vs, Us, ks, hq, hq20, rfl, HO, HE, hfl, hfyl, hkl⟩ := hrel
    obtain ⟨aok, capk, rfl⟩ := own_nil_shape HO.out.kown
    obtain ⟨aow, capw, rfl⟩ := own_nil_shape HO.out.wown
    by_cases hgo : q < bs.length ∧ q < 20
    · obtain ⟨g1, g2⟩ := hgo
      obtain ⟨b, off, V, rfl, hcells⟩ := HBC.out (by intro e; subst e; simp at g1)
      have hck := hcells q g1
      have HCK : Hid (∀ W : World, Below w.heap.size w W → W.cell? ⟨b, off + q, none⟩ = some (V q) ∧ Bs W (V q) (bs.getD q [])) := fun W hW => ⟨by
        rw [hW.cell (p := ⟨b, off + q, none⟩) (World.block_lt_of_cell? w _ hck.1)]
        exact hck.1, hck.2.fr (Fr.ofBelow (S := fun _ => False) hW) (fun _ _ h => h)⟩
      obtain ⟨x, hx⟩ : ∃ x, x = bs.getD q [] := ⟨_, rfl⟩
      have hxm : x ∈ bs := by rw [hx]; simp only [List.getD, List.getElem?_eq_getElem g1, Option.getD_some]; exact List.getElem_mem g1
      have HX8 := hid (HB8.out x hxm)
      rw [← hx] at HCK
      obtain ⟨aox, capx, hvk⟩ := slice_shape (HCK.out w (Below.refl _ _)).2
      rw [hvk] at HCK
      have hck1 := (HCK.out wr HO.out.below).1
      have HV1 := hid (HCK.out wr HO.out.below).2
      have t1 : (q : Int) < (bs.length : Int) := by omega
      have t2 : (q : Int) < 20 := by omega
      have hwN := HO.out.below.size
      have hGs := lt_of_block HO.out.fz.cell
      have hNs := lt_of_block HO.out.fx.cell
      clear hcells hck hvk hx hxm
      go_wp2_with fail
      refine (frame_every _ x _ HV1.out).mono ?_
      rintro e w3 ⟨v3, hf3, hp3⟩
      have HO3 := hid (HO.out.still hf3)
      have hs3 := hf3.size
      clear hf3 hck1 HV1
      rcases hp3 with ⟨x1, x2, rfl, ho3⟩ | ⟨hx, rfl, rfl⟩
      · obtain ⟨ao3, cap3, rfl⟩ := own_nil_shape ho3
        have hfl3 := frameB_length x
        obtain ⟨gb, rfl⟩ := own_addr ho3 (by omega)
        have hgb := ho3.lt gb rfl
        have HO3b := hid ho3
        have hfl4 : (frameB x).length ≤ 65540 := by omega
        have hfl5 : 4 ≤ (frameB x).length := by omega
        clear ho3 hfl3
        go_wp2_with fail
        refine (feed_any w.heap.size w.heap.size vx 65536 fed told 0 _ (frameB x) _ HO3.out.fx (own_bs HO3b.out) (by omega) (by omega) (frameB_lt HX8.out)).mono ?_
        rintro e w4 ⟨rfl, vx4, hz4, hf4, hn4⟩
        rw [if_pos rfl] at hz4
        have HO4 := hid (HO3.out.x hz4 hf4 hn4)
        have HB4 := hid (own_fr HO3b.out hf4 (fun k hk s => by
          simp [Value.ownBlock] at hk
          subst hk
          rcases s with s | s
          · omega
          · have := (HO.out.fx.own.lt _ s).2
            omega))
        have HX4 : Hid (vx4.ownBlock ≠ some gb) := fun e => by
          rcases hn4 _ e with s | s
          · have := (HO.out.fx.own.lt _ s).2
            omega
          · omega
        have hs4 := hf4.size
        clear hz4 hf4 hn4 HO3 HO3b
        go_wp2_with fail
        refine (feed_any w.heap.size G vy 65536 fy 0 0 _ [9] _ ((HO4.out.still (alloc_fr w4 _ _)).fz) (own_bs (lit_own w4 [9] _ 5 1 rfl rfl (by omega))) (by simp; omega) (by simp; omega) (fun j => by match j with | 0 => decide | j + 1 => simp)).mono ?_
        rintro e w5 ⟨rfl, vy5, hz5, hf5, hn5⟩
        rw [if_pos rfl] at hz5
        have HO5 := hid ((HO4.out.still (alloc_fr w4 _ _)).y hz5 hf5 hn5)
        have HB5 := hid (own_fr (HB4.out.alloc _) hf5 (fun k hk s => by
          simp [Value.ownBlock] at hk
          subst hk
          rcases s with s | s
          · omega
          · have := (HO.out.fz.own.lt _ s).2
            omega))
        have HY5 : Hid (vy5.ownBlock ≠ some gb) := fun e => by
          rcases hn5 _ e with s | s
          · have := (HO.out.fz.own.lt _ s).2
            omega
          · simp at s
            omega
        have hs5 : w4.heap.size ≤ w5.heap.size := by have := hf5.size; simp at this; omega
        have HGB : Hid (∀ k, k = gb → w.heap.size ≤ k ∧ k ≠ w.heap.size ∧ k ≠ G ∧ vx4.ownBlock ≠ some k ∧ vy5.ownBlock ≠ some k ∧ (Value.slice aok ks.length capk).ownBlock ≠ some k ∧ (Value.slice aow ks.length capw).ownBlock ≠ some k ∧ ∀ i, i < ks.length → (Vs.getD i (.slice none 0 0)).ownBlock ≠ some k) := by
          rintro k rfl
          have hn := HO.out.new hgb.1
          exact ⟨hn.1, hn.2.1, hn.2.2.1, HX4.out, HY5.out, hn.2.2.2.2.2⟩
        clear hz5 hf5 hn5 HB4 HX4 HY5
        go_wp2_with fail
        go_loopw [14] (fun i wx => ∃ (k : Nat) (ys : List Nat), k ≤ (frameB x).length ∧ i = .int .i64 (k : Int) ∧ ys.length = (frameB x).length ∧ Hid (wx.ownsRow 0 5 1 (.slice (some ⟨gb, 0, none⟩) (frameB x).length cap3) ys.length (by8 ys)) ∧ Hid (O1 w G vx4 vy5 (fed ++ frameB x) told (fy ++ [9]) (.slice aok ks.length capk) (.slice aow ks.length capw) Vs Us ks ks wx)) (fun i _ => (frameB x).length - (intOf i).toNat)
        case atStart => exact ⟨0, frameB x, Nat.zero_le _, rfl, rfl, own_mono HB5.out (Nat.zero_le _), HO5⟩
        case round =>
          obtain ⟨k, ys, hk, rfl, hyl, HY, HOr⟩ := hrel
          by_cases hlt : k < (frameB x).length
          · obtain ⟨hcell, hfree⟩ := own_cell HY.out (g := gb) rfl k (by omega)
            have HN1 : Hid ((wr.setCell ⟨gb, k, none⟩ (.int .u8 238)).ownsRow 0 5 1 (.slice (some ⟨gb, 0, none⟩) (frameB x).length cap3) (ys.set k 238).length (by8 (ys.set k 238))) := own_set HY.out (g := gb) rfl k 238
            have HN2 := hid (HOr.out.fr (fr_set wr gb k (.int .u8 238)) HGB.out)
            have t3 : (k : Int) < ((frameB x).length : Int) := by omega
            clear HY HOr
            go_wp2
            exact ⟨⟨k + 1, ys.set k 238, by omega, by go_num, by simpa using hyl, HN1, HN2⟩, by simp [intOf]; omega⟩
          · have t3 : ¬ (k : Int) < ((frameB x).length : Int) := by omega
            have HST : Hid ((fed ++ frameB x).drop told ++ [] = frameB x ++ []) := by
              show (fed ++ frameB x).drop told ++ [] = frameB x ++ []
              rw [List.drop_append_of_le_length HO.out.fx.le, HE.out]
              simp
            have HLE : Hid (4 + x.length ≤ ((fed ++ frameB x).drop told).length) := by
              show 4 + x.length ≤ ((fed ++ frameB x).drop told).length
              have := congrArg List.length HST.out
              rw [List.append_nil, List.append_nil, frameB_length] at this
              omega
            have hfl6 : (fed ++ frameB x).length ≤ 70000 * (q + 1) := by rw [List.length_append]; omega
            have HX1 : Hid (1 ≤ x.length ∧ x.length ≤ 65536) := ⟨x1, x2⟩
            clear HY HO5 HB5 HO4 HGB HE HO
            go_wp2_with fail
            refine (next_yes w.heap.size w.heap.size vx4 65536 (fed ++ frameB x) told _ HOr.out.fx HOr.out.below.size HOr.out.fx.b8 [] x [] HST.out x1 x2 (by omega) HLE.out).mono ?_
            rintro e w6 ⟨P', hP', bv6, vx6, fed6, told6, rfl, hbo, hz6, hd6, hf6, hn6, hbn6, hl6⟩
            have HO6 := hid (HOr.out.x hz6 hf6 hn6)
            have HE6 : Hid (fed6.drop told6 = []) := by
              show fed6.drop told6 = []
              rw [hd6]
              simpa using hP'
            have hfl7 : fed6.length ≤ 70000 * (q + 1) := Nat.le_trans hl6 hfl6
            have HBV : Hid (w6.ownsRow w.heap.size 5 1 bv6 x.length (by8 x)) := own_mono hbo HOr.out.below.size
            have HBX : Hid (∀ k, bv6.ownBlock = some k → vx6.ownBlock ≠ some k ∧ vy5.ownBlock ≠ some k ∧ ∀ i, i < ks.length → (Vs.getD i (.slice none 0 0)).ownBlock ≠ some k) := fun k hk => by
              have hn := HOr.out.new (hbo.lt k hk).1
              exact ⟨hbn6 k hk, hn.2.2.2.2.1, hn.2.2.2.2.2.2.2⟩
            obtain ⟨aob, capb, rfl⟩ := own_nil_shape hbo
            have hck6 := (HCK.out w6 HO6.out.below).1
            have hq1 := fun n => convO ((own_bs HBV.out).fr ((Fr.refl w6 (fun _ => False)).drewN n) (fun _ _ h => h))
            have hq2 := fun n => convO ((HCK.out w6 HO6.out.below).2.fr ((Fr.refl w6 (fun _ => False)).drewN n) (fun _ _ h => h))
            generalize str8 x = SS at hq1 hq2
            have HO7 := hid (fun n => HO6.out.drewN n)
            have HBV7 := hid (fun n => own_fr HBV.out ((Fr.refl w6 (fun _ => False)).drewN n) (fun _ _ h => h))
            clear hP' hbo hz6 hd6 hf6 hn6 hbn6 hl6 HOr HST HLE hfl6
            go_wp2_with fail
            go_quiet (fail)
            clear hq1 hq2 hck6
            go_upto_region 21 with fail
            obtain ⟨W6, hW6⟩ : ∃ W6, W6 = w6.drewN nq := ⟨_, rfl⟩
            have HO8 := hid (HO7.out nq)
            have HBV8 := hid (HBV7.out nq)
            rw [← hW6] at HO8 HBV8 ⊢
            clear hW6 HO7 HBV7 HO6 HBV
            have hk8 := HO8.out.kown
            have hs8 := HO8.out.below.size
            have hvl := HO8.out.kp.vlen
            go_wp2_with (at_builtin; go_must (refine wpList_append_own_at _ rfl (.tmp 97) (.tmp 99) 49 rfl w.heap.size 24 i4 (.slice none 0 0) 1 24 Try.underlying49 hi4 hz40 hz41 hz42 rfl (by decide) _ _ _ rfl (hk8.alloc _) ⟨W6.heap.size, 0, none⟩ 1 1 [.slice aob x.length capb] rfl rfl (cells_new _ _ _) (fun u hu => by simp at hu; subst hu; rfl) (by unfold maxLen; omega) (by omega) (by simp; omega) ?_))
            intro v7 w7 hown7 hgrow7 _ hat7
            have HF7 := hid ((alloc_fr W6 _ (fun k => (Value.slice aok ks.length capk).ownBlock = some k)).grown hgrow7 (fun k _ e => e))
            have HN7 : Hid (Nw W6 (.slice aok ks.length capk) v7) := Nw.of hat7 (by simp)
            have HO7' := hid hown7
            obtain ⟨ao7, cap7, rfl⟩ := own_nil_shape hown7
            have hs7 := HF7.out.size
            have HB7 : Hid (Below w.heap.size w w7) := HO8.out.below.trans (HF7.out.below hs8 (fun k s => (HO8.out.kown.lt k s).1))
            have hck7 := (HCK.out w7 HB7.out).1
            have hw8 := own_fr HO8.out.wown HF7.out (fun k hk s => HO8.out.kw k s hk)
            clear hown7 hgrow7 hat7 hk8
            go_upto_region 22 with fail
            go_wp2_with (at_builtin; go_must (refine wpList_append_own_at _ rfl (.tmp 101) (.tmp 106) 49 rfl w.heap.size 24 i4 (.slice none 0 0) 1 24 Try.underlying49 hi4 hz40 hz41 hz42 rfl (by decide) _ _ _ rfl (hw8.alloc _) ⟨w7.heap.size, 0, none⟩ 1 1 [.slice aox x.length capx] rfl rfl (cells_new _ _ _) (fun u hu => by simp at hu; subst hu; rfl) (by unfold maxLen; omega) (by omega) (by simp; omega) ?_))
            intro v9 w9 hown9 hgrow9 _ hat9
            have HN := hid (HO8.out.keep (x := x) HBV8.out HBX.out HO7'.out HF7.out HN7.out hown9 ((alloc_fr w7 _ (fun k => (Value.slice aow ks.length capw).ownBlock = some k)).grown hgrow9 (fun k _ e => e)) (Nw.of hat9 (by simp)) (HCK.out w (Below.refl _ _)).2 HX1.out)
            obtain ⟨ao9, cap9, rfl⟩ := own_nil_shape hown9
            have hkl2 : (ks ++ [x]).length ≤ q + 1 := by rw [List.length_append, List.length_singleton]; omega
            have hfy2 : (fy ++ [9]).length ≤ q + 1 := by rw [List.length_append, List.length_singleton]; omega
            clear hown9 hgrow9 hat9 hw8 hck7 HF7 HN7 HO7' HB7 HO8 HBV8 HBX hvl
            have HKL := hid hkl2
            have HFY := hid hfy2
            clear hkl2 hfy2
            go_wp2
            exact ⟨⟨q + 1, vx6, vy5, fed6, told6, fy ++ [9], Vs ++ [.slice aob x.length capb], Us ++ [.slice aox x.length capx], ks ++ [x], by omega, by omega, by go_num, HN, HE6, hfl7, HFY.out, HKL.out⟩, by simp [intOf]; omega⟩
      · have HN := HO3
        clear hx
        go_wp2
        exact ⟨⟨q + 1, vx, vy, fed, told, fy, Vs, Us, ks, by omega, by omega, by go_num, HN, HE, by omega, by omega, by omega⟩, by simp [intOf]; omega⟩
    · go_upto_region 8 with fail
      go_cut [47] (fun s47 wx => wx = wr ∧ s47 = .bool false)
      case first =>
        by_cases g1 : q < bs.length
        · have t1 : (q : Int) < (bs.length : Int) := by omega
          have t2 : ¬ (q : Int) < 20 := by omega
          go_wp2
          go_meet
          exact ⟨rfl, rfl⟩
        · have t1 : ¬ (q : Int) < (bs.length : Int) := by omega
          go_wp2
          go_meet
          exact ⟨rfl, rfl⟩
      case rest =>
        obtain ⟨rfl, rfl⟩ := hcut
        clear HBC HB8 HO0 hgo hq hfl hfyl
        have hk20 : ks.length ≤ 20 := by omega
        go_wp2_with fail
        go_loopw [18] (fun i wx => ∃ (p : Nat) (rs : List (List Nat)), p ≤ ks.length ∧ i = .int .i64 (p : Int) ∧ Hid (O1 w G vx vy fed told fy (.slice aok ks.length capk) (.slice aow ks.length capw) Vs Us ks rs wx) ∧ Hid (Full ks rs p)) (fun i _ => ks.length - (intOf i).toNat)
        case atStart => exact ⟨0, ks, Nat.zero_le _, rfl, HO, Full.start ks⟩
        case round =>
          obtain ⟨p, rs, hp, rfl, HR, HFu⟩ := hrel
          clear HO
          by_cases hlt : p < ks.length
          · obtain ⟨gk, rfl⟩ := own_addr HR.out.kown (by omega)
            obtain ⟨gw, rfl⟩ := own_addr HR.out.wown (by omega)
            have ck := own_elem HR.out.kown p hlt
            have cw := own_elem HR.out.wown p hlt
            have hov := HR.out.kp.own p (by rw [HR.out.rlen]; exact hlt)
            rw [HFu.out.at hlt] at hov
            have hus := (HR.out.us p hlt).1
            have hgd := HR.out.good p hlt
            have HST := hid (HFu.out.step HR.out.rlen hlt)
            have HTU := hid (fun (W : World) (x : List Nat) => HR.out.turn (w' := W) (x := x) hlt)
            obtain ⟨y, hy⟩ : ∃ y, y = ks.getD p [] := ⟨_, rfl⟩
            obtain ⟨vp, hvp⟩ : ∃ vp, vp = Vs.getD p (.slice none 0 0) := ⟨_, rfl⟩
            obtain ⟨up, hup⟩ : ∃ up, up = Us.getD p (.slice none 0 0) := ⟨_, rfl⟩
            rw [← hvp] at ck hov HTU
            rw [← hup] at cw hus
            rw [← hy] at hov hus hgd HST HTU
            clear hy hvp hup
            obtain ⟨aop, capp, rfl⟩ := own_nil_shape hov
            obtain ⟨aou, capu, rfl⟩ := slice_shape hus
            obtain ⟨gp, rfl⟩ := own_addr hov hgd.1
            have HOV := hid hov
            have hy1 : (1 : Int) ≤ (y.length : Int) := by omega
            have hy2 : (y.length : Int) ≤ 65536 := by omega
            have t1 : (p : Int) < (ks.length : Int) := by omega
            have tp : (p : Int) < 20 := by omega
            have hq1 := fun n => convO ((own_bs hov).fr ((Fr.refl wr (fun _ => False)).drewN n) (fun _ _ h => h))
            have hq2 := fun n => convO (hus.fr ((Fr.refl wr (fun _ => False)).drewN n) (fun _ _ h => h))
            generalize str8 y = SS at hq1 hq2
            have hgkp : gk ≠ gp := fun e => own_apart HR.out.kown hov (by decide) (k := gk) rfl (by rw [e]; rfl)
            have hwN := HR.out.below.size
            have hgps := (hov.lt gp rfl)
            have HKC : Hid (∀ W : World, Fr wr W (fun k => k = gp) → W.cell? ⟨gk, p, none⟩ = some (.slice (some ⟨gp, 0, none⟩) y.length capp)) := fun W hW => by
              rw [World.cell?_of_block (w := wr) (a := ⟨gk, p, none⟩) (hW.block gk (World.block_lt_of_cell? wr _ ck) hgkp)]
              exact ck
            clear hov hus hgd
            go_wp2_with fail
            go_quiet (fail)
            clear hq1 hq2
            go_upto_region 28 with fail
            obtain ⟨W0, hW0⟩ : ∃ W0, W0 = wr.drewN nq := ⟨_, rfl⟩
            have HFW : Hid (Fr wr W0 (fun _ => False)) := by rw [hW0]; exact (Fr.refl _ _).drewN nq
            rw [← hW0]
            clear hW0 cw
            have ck0 := HKC.out W0 (HFW.out.mono (fun _ _ h => h.elim))
            have ho0 := own_fr HOV.out HFW.out (fun _ _ h => h)
            have hs0 := HFW.out.size
            go_wp2_with (at_builtin; go_must (refine wpList_append_keep _ rfl (.tmp 128) (.tmp 129) 24 rfl w.heap.size 5 i0 (.int .u8 0) 1 Try.underlying24 hi hz0 hz1 hz2 rfl _ _ _ rfl (ho0.alloc _) ⟨W0.heap.size, 0, none⟩ 3 3 (by8 [1, 2, 3]) rfl rfl (cells_newL _ (by8 [1, 2, 3]) 5) (by8_one _) (by unfold maxLen; omega) (by omega) (by simp; omega) ?_))
            intro v10 w10 hown10 hgrow10 hat10 hkeep10
            have hl13 : (y ++ [1, 2, 3]).length = y.length + 3 := by simp
            have hown11 : w10.ownsRow w.heap.size 5 1 v10 (y ++ [1, 2, 3]).length (by8 (y ++ [1, 2, 3])) := by
              rw [hl13, by8_append]
              exact hown10
            obtain ⟨ao10, cap10, rfl⟩ := own_nil_shape hown10
            obtain ⟨g10, rfl⟩ := own_addr hown10 (by omega)
            obtain ⟨c10, f10⟩ := own_cell hown11 (g := g10) rfl 0 (by rw [hl13]; omega)
            have HF10 := hid (((HFW.out.mono (T := fun k => k = gp) (fun _ _ h => h.elim)).alloc _).grown hgrow10 (fun k _ e => by simp [Value.ownBlock] at e; exact e.symm))
            have HG10 : Hid (g10 < wr.heap.size → g10 = gp) := fun h => by
              rcases hat10 with e | e
              · simp [Value.ownBlock] at e
                exact e
              · simp [Value.ownBlock] at e
                omega
            have HZ10 := hid (own_zero (c := p) (g := g10) hkeep10 rfl)
            have HF11 : Hid (Fr wr (w10.setCell ⟨g10, 0, none⟩ (.int .u8 (p : Int))) (fun k => k = gp)) := HF10.out.setCell (S := fun k => k = gp) (fun h => HG10.out h) _
            have hs10 := HF10.out.size
            clear hown10 hown11 hgrow10 hat10 hkeep10 ho0 HF10 HG10 hl13 ck0
            go_wp2_with fail
            generalize wr = W1 at *
            go_loopw [20] (fun i wx => ∃ (k : Nat) (ys : List Nat), k ≤ y.length ∧ i = .int .i64 (k : Int) ∧ ys.length = y.length ∧ Hid (∀ j, j < k → ys.getD j 0 = p) ∧ Hid (wx.ownsRow w.heap.size 5 1 (.slice (some ⟨gp, 0, none⟩) y.length capp) ys.length (by8 ys)) ∧ Hid (Fr W1 wx (fun k => k = gp))) (fun i _ => y.length - (intOf i).toNat)
            case atStart =>
              obtain ⟨ys, hyl, hyo⟩ := HZ10.out
              exact ⟨0, ys, Nat.zero_le _, rfl, hyl, fun j hj => by omega, hyo, HF11⟩
            case round =>
              obtain ⟨k, ys, hk, rfl, hyl, HJ, HY, HF⟩ := hrel
              have ckr := HKC.out wr HF.out
              by_cases hlt2 : k < y.length
              · obtain ⟨hcell, hfree⟩ := own_cell HY.out (g := gp) rfl k (by omega)
                have HN1 : Hid ((wr.setCell ⟨gp, k, none⟩ (.int .u8 (p : Int))).ownsRow w.heap.size 5 1 (.slice (some ⟨gp, 0, none⟩) y.length capp) (ys.set k p).length (by8 (ys.set k p))) := own_set HY.out (g := gp) rfl k p
                have HN2 : Hid (Fr W1 (wr.setCell ⟨gp, k, none⟩ (.int .u8 (p : Int))) (fun k => k = gp)) := HF.out.setCell (S := fun k => k = gp) (fun _ => rfl) _
                have HN3 : Hid (∀ j, j < k + 1 → (ys.set k p).getD j 0 = p) := fun j hj => by
                  rw [getD_set _ _ _ _ _ (by omega)]
                  by_cases h : j = k
                  · rw [if_pos h]
                  · rw [if_neg h]
                    exact HJ.out j (by omega)
                have t3 : (k : Int) < (y.length : Int) := by omega
                clear HY HF HJ
                go_wp2
                exact ⟨⟨k + 1, ys.set k p, by omega, by go_num, by simpa using hyl, HN3, HN1, HN2⟩, by simp [intOf]; omega⟩
              · have t3 : ¬ (k : Int) < (y.length : Int) := by omega
                have hys : ys = List.replicate y.length p := full_row hyl (fun j hj => HJ.out j (by omega))
                have HN1 := hid (HTU.out wr ys (HF.out.mono (fun k _ e => by rw [e]; rfl)) HY.out hyl)
                rw [hys] at HN1
                clear HY HF HJ hys
                go_wp2
                exact ⟨⟨p + 1, _, by omega, by go_num, HN1, HST⟩, by simp [intOf]; omega⟩
          · have t1 : ¬ (p : Int) < (ks.length : Int) := by omega
            obtain rfl : p = ks.length := by omega
            go_wp2_with fail
            generalize wr = W2 at *
            go_loop [21] (fun i => ∃ p : Nat, p ≤ ks.length ∧ i = .int .i64 (p : Int)) (fun i => ks.length - (intOf i).toNat)
            case atStart => exact ⟨0, Nat.zero_le _, rfl⟩
            case round =>
              obtain ⟨p, hp2, rfl⟩ := hrel
              by_cases hlt2 : p < ks.length
              · obtain ⟨gk, rfl⟩ := own_addr HR.out.kown (by omega)
                have ck := own_elem HR.out.kown p hlt2
                have hov := HR.out.kp.own p (by rw [HR.out.rlen]; exact hlt2)
                rw [HFu.out p hlt2, if_pos hlt2] at hov
                have hgd := HR.out.good p hlt2
                obtain ⟨y, hy⟩ : ∃ y, y = ks.getD p [] := ⟨_, rfl⟩
                obtain ⟨vp, hvp⟩ : ∃ vp, vp = Vs.getD p (.slice none 0 0) := ⟨_, rfl⟩
                rw [← hvp] at ck hov
                rw [← hy] at hov hgd
                clear hy hvp
                obtain ⟨aop, capp, rfl⟩ := own_nil_shape hov
                obtain ⟨gp, rfl⟩ := own_addr hov (by simpa using hgd.1)
                have HOV := hid hov
                rw [List.length_replicate] at ck
                have t2 : (p : Int) < (ks.length : Int) := by omega
                have tp : (p : Int) < 20 := by omega
                have hy2 : (y.length : Int) ≤ 65536 := by omega
                have HY1 := hid hgd
                clear hov hgd
                go_wp2_with fail
                go_loop [22] (fun i => ∃ k : Nat, k ≤ y.length ∧ i = .int .i64 (k : Int)) (fun i => y.length - (intOf i).toNat)
                case atStart => exact ⟨0, Nat.zero_le _, rfl⟩
                case round =>
                  obtain ⟨k, hk, rfl⟩ := hrel
                  by_cases hlt3 : k < y.length
                  · have hc := (own_cell HOV.out (g := gp) rfl k (by simpa using hlt3)).1
                    have e1 : (List.replicate y.length p).getD k 0 = p := by simp [List.getD, hlt3]
                    rw [e1] at hc
                    have t3 : (k : Int) < (y.length : Int) := by omega
                    clear e1
                    go_wp2
                    exact ⟨⟨k + 1, by omega, by go_num⟩, by simp [intOf]; omega⟩
                  · have t3 : ¬ (k : Int) < (y.length : Int) := by omega
                    go_wp2
                    exact ⟨⟨p + 1, by omega, by go_num⟩, by simp [intOf]; omega⟩
              · have t2 : ¬ (p : Int) < (ks.length : Int) := by omega
                have HS3 := hid (O3.start HR.out)
                generalize hB1 : W2.heap.size = B1 at *
                have HB1 := hid hB1
                clear HR HFu hB1
                go_wp2_with fail
                rw [HB1.out]
                go_loopw [25] (fun i wx => ∃ (q : Nat) (v1 v2 : Value) (a b : List Nat), q ≤ 30 ∧ q ≤ ln ∧ i = .int .i64 (q : Int) ∧ Hid (O3 w B1 (B1 + 1) vx fed told v1 v2 a b wx) ∧ a.length = q ∧ b.length = 2 * q) (fun i _ => 30 - (intOf i).toNat)
                case atStart => exact ⟨0, _, _, [], [], by omega, by omega, rfl, HS3, rfl, rfl⟩
                case round =>
                  obtain ⟨q, v1, v2, a, b, hq30, hql, rfl, HW, hal, hbl2⟩ := hrel
                  have hszr := HW.out.below.size
                  by_cases hgo2 : q < ln ∧ q < 30
                  · obtain ⟨g1, g2⟩ := hgo2
                    have s1 : (q : Int) < (ln : Int) := by omega
                    have s2 : (q : Int) < 30 := by omega
                    go_wp2_with fail
                    refine (num_any w.heap.size B1 v1 a (q : Int) _ (by omega) (by omega) HW.out.w1 hszr (by omega)).mono ?_
                    rintro e w11 ⟨rfl, v11, hw11, hf11, hn11⟩
                    have HW1 := hid (HW.out.one hw11 hf11 hn11)
                    have hs11 := hf11.size
                    clear hw11 hf11 hn11
                    go_wp2_with fail
                    refine (text_any w.heap.size (B1 + 1) v2 b ⟨#[122]⟩ _ HW1.out.w2 (by omega) (by have : (⟨#[122]⟩ : ByteArray).size = 1 := rfl; omega)).mono ?_
                    rintro e w12 ⟨rfl, v12, hw12, hf12, hn12⟩
                    have HW2 := hid (HW1.out.two hw12 hf12 hn12)
                    have ha2 : (a ++ numB (q : Int)).length = q + 1 := by
                      have := numB_small q (by omega)
                      rw [List.length_append]
                      omega
                    have hb2 : (b ++ numB ((⟨#[122]⟩ : ByteArray).size : Int) ++ nums8 ⟨#[122]⟩).length = 2 * (q + 1) := by
                      rw [List.length_append, List.length_append, hbl2]
                      have e1 : (numB ((⟨#[122]⟩ : ByteArray).size : Int)).length = 1 := by decide
                      have e2 : (nums8 ⟨#[122]⟩).length = 1 := rfl
                      omega
                    clear hw12 hf12 hn12 HW1
                    generalize a ++ numB (q : Int) = a2 at *
                    generalize b ++ numB ((⟨#[122]⟩ : ByteArray).size : Int) ++ nums8 ⟨#[122]⟩ = b2 at *
                    go_wp2
                    exact ⟨⟨q + 1, v11, v12, a2, b2, by omega, by omega, by go_num, HW2, ha2, hb2⟩, by simp [intOf]; omega⟩
                  · go_upto_region 45 with fail
                    go_cut [188] (fun s188 wx => wx = wr ∧ s188 = .bool false)
                    case first =>
                      by_cases g1 : q < ln
                      · have s1 : (q : Int) < (ln : Int) := by omega
                        have s2 : ¬ (q : Int) < 30 := by omega
                        go_wp2
                        go_meet
                        exact ⟨rfl, rfl⟩
                      · have s1 : ¬ (q : Int) < (ln : Int) := by omega
                        go_wp2
                        go_meet
                        exact ⟨rfl, rfl⟩
                    case rest =>
                      obtain ⟨rfl, rfl⟩ := hcut
                      have hh : heldN fed told 0 = 0 := by
                        have := congrArg List.length HE.out
                        simp at this
                        simp [heldN]
                        omega
                      have HH := hid hh
                      have HAL := hid hal
                      have HBL := hid hbl2
                      clear hh hal hbl2
                      go_wp2_with fail
                      refine (bytes_any w.heap.size B1 v1 a _ HW.out.w1 (by have := HAL.out; omega)).mono ?_
                      rintro e w13 ⟨v13, rfl, ho13, hf13⟩
                      have HW3 := hid (HW.out.still hf13)
                      obtain ⟨ao13, cap13, rfl⟩ := own_nil_shape ho13
                      rw [HAL.out]
                      clear ho13 hf13
                      rcases (show ((q : Int) = (ln : Int) ∧ (ln : Int) < 30) ∨ ((q : Int) = 30 ∧ (30 : Int) ≤ (ln : Int)) by omega) with ⟨m1, m2⟩ | ⟨m1, m2⟩
                      · obtain rfl : q = ln := by omega
                        clear m1 hgo2 hql
                        go_wp2_with fail
                        refine (bytes_any w.heap.size (B1 + 1) v2 b _ HW3.out.w2 (by have := HBL.out; omega)).mono ?_
                        rintro e w14 ⟨v14, rfl, ho14, hf14⟩
                        have HW4 := hid (HW3.out.still hf14)
                        obtain ⟨ao14, cap14, rfl⟩ := own_nil_shape ho14
                        rw [HBL.out]
                        clear ho14 hf14
                        go_wp2_with (first
                          | (go_at_call 28; refine (held_any _ _ vx 65536 fed told 0 _ HW4.out.fx).mono ?_; rintro e w6 ⟨rfl, n6, rfl⟩; rw [HH.out]; have HB6 := hid (HW4.out.still ((Fr.refl _ _).drewN n6)).below)
                          | (go_at_call 21; refine (head_any _).mono ?_; rintro e w7 ⟨rfl, hb7⟩; have HB7 := hid (HB6.out.trans (hb7.mono HB6.out.size)); clear hb7))
                        go_ret
                        exact ⟨rfl, HB7.out⟩
                      · obtain rfl : q = 30 := by omega
                        clear m1 hgo2 hql
                        go_wp2_with fail
                        refine (bytes_any w.heap.size (B1 + 1) v2 b _ HW3.out.w2 (by have := HBL.out; omega)).mono ?_
                        rintro e w14 ⟨v14, rfl, ho14, hf14⟩
                        have HW4 := hid (HW3.out.still hf14)
                        obtain ⟨ao14, cap14, rfl⟩ := own_nil_shape ho14
                        rw [HBL.out]
                        clear ho14 hf14
                        go_wp2_with (first
                          | (go_at_call 28; refine (held_any _ _ vx 65536 fed told 0 _ HW4.out.fx).mono ?_; rintro e w6 ⟨rfl, n6, rfl⟩; rw [HH.out]; have HB6 := hid (HW4.out.still ((Fr.refl _ _).drewN n6)).below)
                          | (go_at_call 21; refine (head_any _).mono ?_; rintro e w7 ⟨rfl, hb7⟩; have HB7 := hid (HB6.out.trans (hb7.mono HB6.out.size)); clear hb7))
                        go_ret
                        exact ⟨rfl, HB7.out⟩
end Go.Proofs.Ytdhobmnljniccab
