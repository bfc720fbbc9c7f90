/- The law WireAnswers: its walk (unfinished: it holds sorry). -/
import Derived.Test.YtmadlmbpgkifoabWAns2
import Derived.Test.YtmadlmbpgkifoabTold
import Derived.Test.YtmadlmbpgkifoabLists
import Derived.Test.YtmadlmbpgkifoabLend
import Derived.Deep.DeepCutAuto
import Derived.Deep.RegionHeld3
import Derived.BigQuiet
namespace Go.Proofs.Ytmadlmbpgkifoab
open Go.RowKit

/-- Rows that are not too long. -/
def Sh (xs : List (List Nat)) : Prop := ∀ i, (xs.getD i []).length ≤ 4000000
theorem Sh.nil : Sh [] := fun i => by simp
theorem Sh.snoc {xs : List (List Nat)} {x : List Nat} (h : Sh xs) (hx : x.length ≤ 4000000) : Sh (xs ++ [x]) := by
  intro i
  rw [getD_snoc]
  split
  · exact h i
  · split
    · exact hx
    · simp
theorem AW.two {w : World} {F : Nat} {v bv vx vK vW a b : Value} {tb fed : List Nat} {told : Nat} {VK VW VS WS : List Value} {ks xs : List (List Nat)} {x y : List Nat} {wx : World} (h : AW w F v bv vx vK vW tb fed told (VK ++ [a] ++ [b]) VW VS WS (ks ++ [x] ++ [y]) xs wx) (hl : VK.length = ks.length) :
    wx.ownsRow w.heap.size 5 1 a x.length (by8 x) ∧ wx.ownsRow w.heap.size 5 1 b y.length (by8 y) := by
  have h1 := h.k.own ks.length (by simp)
  have h2 := h.k.own (ks.length + 1) (by simp)
  rw [getD_snoc, if_pos (by simp [hl]), getD_snoc, if_neg (by omega), if_pos hl.symm, getD_snoc, if_pos (by simp), getD_snoc, if_neg (by omega), if_pos rfl] at h1
  rw [getD_snoc, if_neg (by simp [hl]), if_pos (by simp [hl]), getD_snoc, if_neg (by simp), if_pos (by simp)] at h2
  exact ⟨h1, h2⟩
theorem AW.start {w w1 w2 : World} {v bv : Value} {tb : List Nat} (h : TW w v bv tb tb w1) (hz : Fz w2 w1.heap.size w1.heap.size (.slice none 0 0) 65536 [] 0 0) (hf : Fr w1 w2 (fun _ => False)) : AW w w1.heap.size v bv (.slice none 0 0) (.slice none 0 0) (.slice none 0 0) tb [] 0 [] [] [] [] [] [] w2 := by
  have h1 := lt_of_block h.wr.cell
  exact ⟨h.wr.fr hf (fun h => h) (fun _ _ h => h), own_fr h.own hf (fun _ _ h => h), ⟨hz.cell, World.ownsRow_nil _ _ _ _, by simp, by simp, by simp, by omega, by simp⟩, World.ownsRow_nil _ _ _ _, World.ownsRow_nil _ _ _ _, fun b hb => by simp [Value.ownBlock] at hb, Kp.nil _ _ _, Kp.nil _ _ _, fun i j hi => by simp at hi, fun i hi => by simp at hi, fun i hi => by simp at hi, h.ap, fun b hb => by simp [Value.ownBlock] at hb, h1, h.below.trans (hf.below h.below.size (fun _ h => h.elim))⟩

set_option maxHeartbeats 800000 in
set_option maxRecDepth 100000 in
/-- Frame, of a body of whatever length. -/
theorem frame_every (sv : Value) (xs : List Nat) (w : World) (hs : Bs w sv xs) :
    Calls Try.prog 24 #[sv] w fun e w' => FramePost w xs e w' := by
  by_cases hl : xs.length ≤ 140737488355328
  · exact frame_any sv xs w hs hl
  · obtain ⟨ao, cap, rfl⟩ := slice_shape hs
    have HX : Hid (¬ (1 ≤ xs.length ∧ xs.length ≤ 65536)) := by
      intro h
      omega
    have t1 : ¬ (xs.length : Int) < 1 := by omega
    have t2 : (65536 : Int) < (xs.length : Int) := by omega
    clear hl hs
    generalize hn : xs.length = n at *
    have HN := hid hn
    clear hn
    go_enter Try.func24, Try.ntmps24
    go_wp2
    go_ret2
    exact ⟨_, Fr.refl _ _, Or.inr ⟨by rw [HN.out]; exact HX.out, rfl, rfl⟩⟩

/-- What lies behind the first four bytes. -/
theorem slice4_run {W : World} (g n cap : Nat) (h5 : 5 ≤ n) (hc : n ≤ cap) : (Instr.slice 24 (.slice (some ⟨g, 0, none⟩) n cap) (some (.int .i64 4)) none none).run Try.prog W = .ok (.slice (some ⟨g, 4, none⟩) (n - 4) (cap - 4)) W := by
  have h2 : ¬ cap = 4 := by omega
  simp [Instr.slice, Instr.sliceBounds, Instr.sliceBound, run_underlying Try.underlying24, go_sem, h2]
  intro h
  omega
theorem frame_tail (x : List Nat) : (frameB x).drop 4 = x := by
  unfold frameB
  rw [List.drop_append_of_le_length (by simp [headB]), List.drop_of_length_le (by simp [headB]), List.nil_append]
theorem own_head {w : World} {base n : Nat} {ao : Option Addr} {cap : Nat} {xs : List Value} (h : w.ownsRow base 5 1 (.slice ao n cap) n xs) (hn : 1 ≤ n) : ∃ g, ao = some ⟨g, 0, none⟩ ∧ n ≤ cap := by
  rcases h.2 with ⟨_, h0⟩ | ⟨g, c, cur, e, _, _, hle, _⟩
  · omega
  · simp only [Value.slice.injEq] at e
    obtain ⟨rfl, _, rfl⟩ := e
    exact ⟨g, rfl, hle⟩
theorem Fz.below {w W W' : World} {F : Nat} {v : Value} {fed : List Nat} {told : Nat} (h : Fz W w.heap.size F v 65536 fed told 0) (hb : Below w.heap.size w W) (hf : Fr W W' (fun k => k = F ∨ v.ownBlock = some k)) : Below w.heap.size w W' := hb.trans (hf.below hb.size (fun k s => by
  rcases s with s | s
  · have := h.base; omega
  · exact (h.own.lt k s).1))

set_option maxHeartbeats 8000000 in
set_option maxRecDepth 100000 in
theorem answers_walk (lv dv : Value) (cs : List CallV) (bs : List (List Nat)) (w : World) (hl : Cls w lv cs) (hbs : Bss w dv bs) (hbl : bs.length ≤ 2000000) (hb1 : ∀ g ∈ bs, g.length ≤ 2000000) (hb8 : ∀ g ∈ bs, ∀ j, g.getD j 0 < 256) :
    Calls Try.prog 8 #[lv, dv] w fun e w' => e = .returned (.bool true) ∧ Below w.heap.size w w' := by
  obtain ⟨bao, bcap, rfl, hbcell⟩ := hbs
  have HBC := bk_hid hbcell
  have HB1 := bk_hid hb1
  have HB8 := bk_hid hb8
  have HT := bk_hid (told_any lv cs w hl)
  obtain ⟨i0, hinfo, hz0, hz1, hz2⟩ := info_parts Try.info_sl8
  clear hbcell hb1 hb8 hl
  go_enter Try.func8, Try.ntmps8
  go_wp2_with fail
  refine HT.out.mono ?_
  rintro e w1 ⟨v, bv, tb, rfl, htw, htl⟩
  have HTW := bk_hid htw
  clear htw HT
  go_wp2_with fail
  refine (new_ok 65536 _ (by omega) (by omega)).mono ?_
  rintro e w2 ⟨rfl, hz2', hf2, _⟩
  have HA0 := bk_hid (AW.start HTW.out hz2' hf2)
  clear hz2' hf2 HTW
  generalize w1.heap.size = F at *
  go_wp2_with fail
  go_loopg [9, 10, 11] 3 (fun g s9 s10 s11 wx => ∃ (i : Nat) (VK VW : List Value) (xs : List (List Nat)), s11 = .int .i64 (i : Int) ∧ i + g = 3 ∧ xs.length = i ∧ Hid (AW w F v bv (.slice none 0 0) s9 s10 tb [] 0 VK VW VK VW xs xs wx) ∧ Hid (Sh xs))
  case atStart => exact ⟨0, [], [], [], rfl, rfl, rfl, HA0, Sh.nil⟩
  case round =>
    obtain ⟨i, VK, VW, xs, rfl, hg, hxl, HA, HSH⟩ := hrel
    clear HA0
    cases gk with
    | zero =>
      have t1 : ¬ (i : Int) < 3 := by omega
      have hx3 : xs.length ≤ 3 := by omega
      clear hg
      go_wp2_with fail
      clear t1
      go_loopg [9, 10, 12] (min bs.length 15) (fun g s9 s10 s12 wx => ∃ (q : Nat) (VK VW : List Value) (xs : List (List Nat)) (vx : Value) (fed : List Nat) (told : Nat), s12 = .int .i64 (q : Int) ∧ q + g = min bs.length 15 ∧ xs.length ≤ 3 + 4 * q ∧ fed.length ≤ 140000 * q ∧ Hid (fed.drop told = []) ∧ Hid (AW w F v bv vx s9 s10 tb fed told VK VW VK VW xs xs wx) ∧ Hid (Sh xs))
      case atStart => exact ⟨0, VK, VW, xs, _, [], 0, rfl, by omega, by omega, by simp, rfl, HA, HSH⟩
      case round =>
        clear HA HSH
        obtain ⟨q, VK, VW, xs, vx, fed, told, rfl, hg, hxl, hfl, HE, HA, HSH⟩ := hrel
        cases gk with
        | zero =>
          have hcs : (¬ (q : Int) < (bs.length : Int)) ∨ ((q : Int) < (bs.length : Int) ∧ ¬ (q : Int) < 15) := by omega
          have hxn : xs.length ≤ 100 := by omega
          have HFL := bk_hid (show fed.length ≤ 2100000 by omega)
          have hh0 : heldN fed told 0 = 0 := by
            have h2 := congrArg List.length HE.out
            rw [List.length_drop] at h2
            unfold heldN
            rw [if_neg (by omega)]
            simpa using h2
          have HAd := bk_hid (HA.out.still (Fr.refl _ _).drew)
          have hsk := HA.out.sk
          rw [HA.out.k.vlen] at hsk
          obtain ⟨aK, cK, rfl⟩ := own_nil_shape hsk
          have hsw := HA.out.sw
          rw [HA.out.u.vlen] at hsw
          obtain ⟨aW, cW, rfl⟩ := own_nil_shape hsw
          obtain ⟨ab, cb, rfl⟩ := own_nil_shape HA.out.bo
          have HAP := bk_hid (apart_any8 (HAd.out.bb rfl (fun i => Nat.le_trans (HSH.out i) (by omega))) hxn)
          have HBK := bk_hid (fun W (ks : List (List Nat)) (hb : BB w.heap.size wr.drew W (.slice aK xs.length cK) (.slice aW xs.length cW) VK VW ks xs xs.length) => HAd.out.back rfl hb)
          have HHE : Hid (∀ W : World, Fz W w.heap.size F vx 65536 fed told 0 → Calls Try.prog 28 #[.pointer (some ⟨F, 0, none⟩)] W fun e w' => e = .returned (.int .i64 0) ∧ ∃ n, w' = W.drewN n) := fun W h => (held_any w.heap.size F vx 65536 fed told 0 W h).mono (fun e w' h2 => ⟨by rw [h2.1, hh0]; rfl, h2.2⟩)
          have HCV := bk_hid (fun (W : World) (h : W.ownsRow w.heap.size 5 1 (.slice ab tb.length cb) tb.length (by8 tb)) => run_str8 (P := Try.prog) Try.underlying24 Try.underlying5 Try.underlying9 (own_bs h))
          have HCW := bk_hid (fun (W : World) (base : Nat) (p : Option Addr) (r : Nat) (h : W.ownsRow base 5 1 (.slice p tb.length r) tb.length (by8 tb)) => run_str8 (P := Try.prog) Try.underlying24 Try.underlying5 Try.underlying9 (own_bs h))
          generalize hsz8 : str8 tb = SZ at HCV HCW
          clear hsz8 hh0
          clear HA HSH hg hxl hfl hxn hsk hsw
          go_upto_region 13 with fail
          go_cut [64] (fun s wx => s = .bool false ∧ wr = wx)
          case first =>
            rcases hcs with t1 | ⟨t1, t2⟩
            all_goals go_wp2_with fail
            all_goals go_meet
            all_goals exact ⟨rfl, rfl⟩
          obtain ⟨rfl, rfl⟩ := hcut
          go_wp2_with fail
          go_cut [158] (fun s wx => s = .bool false ∧ Hid (Fz wx w.heap.size F vx 65536 fed told 0) ∧ Hid (Below w.heap.size w wx))
          case first =>
            go_region_with ((first
              | (go_at_call 32; refine HAP.out.mono ?_; rintro e w5 ⟨rfl, ks, hb⟩; have HA5 := bk_hid (HBK.out _ _ hb); have hcb := HCV.out _ HA5.out.bo; clear hb)
              | (go_at_call 12; refine (bytes_any w.heap.size w.heap.size v tb _ HA5.out.wr (by omega)).mono ?_; rintro e w6 ⟨x3, rfl, ho, hf⟩; have HA6 := bk_hid (HA5.out.still hf); obtain ⟨p3, q3, rfl⟩ := own_nil_shape ho; have hcv := HCW.out _ _ _ _ ho; have hcc := HCV.out _ HA6.out.bo; clear ho hf)
              | (go_at_call 28; refine (HHE.out _ HA6.out.fz).mono ?_; rintro e w7 ⟨rfl, nq, rfl⟩; have HA7 := bk_hid (HA6.out.still ((Fr.refl _ _).drewN nq)))
              | fail))
            all_goals go_wp2_with fail
            all_goals go_meet
            all_goals exact ⟨rfl, HA7.out.fz, HA7.out.below⟩
          obtain ⟨rfl, HFZ, HBL⟩ := hcut
          clear HAP HBK HHE HCV HCW HAd
          go_wp2_with fail
          go_loopg [22] (min bs.length 15) (fun g s22 wx => ∃ (q : Nat) (vx : Value) (fed : List Nat) (told : Nat), s22 = .int .i64 (q : Int) ∧ q + g = min bs.length 15 ∧ fed.length ≤ 2100000 + 70000 * q ∧ Hid (fed.drop told = []) ∧ Hid (Fz wx w.heap.size F vx 65536 fed told 0) ∧ Hid (Below w.heap.size w wx))
          case atStart => exact ⟨0, vx, fed, told, rfl, by omega, by have := HFL.out; omega, HE, HFZ, HBL⟩
          clear HFL HE HFZ HBL
          obtain ⟨q, vx, fed, told, rfl, hg, hfl, HE, HZ, HB⟩ := hrel
          cases gk with
          | zero =>
            have hcs : (¬ (q : Int) < (bs.length : Int)) ∨ ((q : Int) < (bs.length : Int) ∧ ¬ (q : Int) < 15) := by omega
            rcases hcs with t1 | ⟨t1, t2⟩
            all_goals go_wp2_with fail
            all_goals refine (head_any _).mono ?_
            all_goals rintro e wz ⟨rfl, hz⟩
            all_goals have HBZ := bk_hid (HB.out.trans (hz.mono HB.out.size))
            all_goals clear hz
            all_goals go_wp2_with fail
            all_goals go_ret
            all_goals exact ⟨rfl, HBZ.out⟩
          | succ g =>
            have t1 : (q : Int) < (bs.length : Int) := by omega
            have t2 : (q : Int) < 15 := by omega
            have tnn : (0 : Int) ≤ (q : Int) := by omega
            have g1 : q < bs.length := by omega
            have HG := bk_hid hg
            clear hg
            obtain ⟨b, off, V, rfl, hcells⟩ := HBC.out (by intro e; subst e; simp at g1)
            have hck := hcells q g1
            have HCK : Hid (∀ W : World, Below w.heap.size w W → W.cell? ⟨b, off + q, none⟩ = some (V q) ∧ Bs W (V q) (bs.getD q [])) := fun W hW => ⟨by
              rw [hW.cell (p := ⟨b, off + q, none⟩) (World.block_lt_of_cell? w _ hck.1)]
              exact hck.1, hck.2.fr (Fr.ofBelow (S := fun _ => False) hW) (fun _ _ h => h)⟩
            obtain ⟨x, hx⟩ : ∃ x, x = bs.getD q [] := ⟨_, rfl⟩
            have hxm : x ∈ bs := by rw [hx]; simp only [List.getD, List.getElem?_eq_getElem g1, Option.getD_some]; exact List.getElem_mem g1
            have HX8 := bk_hid (HB8.out x hxm)
            have hx2 := HB1.out x hxm
            rw [← hx] at HCK
            obtain ⟨aox, capx, hvk⟩ := slice_shape (HCK.out w (Below.refl _ _)).2
            rw [hvk] at HCK
            have hck1 := (HCK.out wr HB.out).1
            clear hcells hck hvk hx hxm
            have HCX := bk_hid (fun (W : World) (h : Bs W (.slice aox x.length capx) x) => run_str8 (P := Try.prog) Try.underlying24 Try.underlying5 Try.underlying9 h)
            have HCY := bk_hid (fun (W : World) (v : Value) (h : Bs W v x) => run_str8 (P := Try.prog) Try.underlying24 Try.underlying5 Try.underlying9 h)
            generalize hsz8 : str8 x = SX at HCX HCY
            clear hsz8
            have hte := HE.out
            have htl : told = fed.length := by
              have h1 := HZ.out.le
              have h2 := congrArg List.length hte
              rw [List.length_drop] at h2
              simp at h2
              omega
            clear hte
            go_wp2_with fail
            refine (frame_every _ x _ (HCK.out _ HB.out).2).mono ?_
            rintro e w4 ⟨v4, hf4, hp4⟩
            have HZ4 := bk_hid (HZ.out.fr hf4 (fun h => h) (fun _ _ h => h))
            have HB4 := bk_hid (HB.out.trans (hf4.below HB.out.size (fun _ h => h.elim)))
            obtain ⟨hck4, hbx4⟩ := HCK.out _ HB4.out
            have hcx := fun n => HCX.out (w4.drewN n) (hbx4.fr ((Fr.refl w4 (fun _ => False)).drewN n) (fun _ _ h => h))
            have hcx0 := HCX.out w4 hbx4
            clear HZ HB hf4 hck1 hbx4
            rcases hp4 with ⟨x1, x2, rfl, ho4⟩ | ⟨hx, rfl, rfl⟩
            · obtain ⟨p4, q4, rfl⟩ := own_nil_shape ho4
              obtain ⟨gA, rfl, hle4⟩ := own_head ho4 (by rw [frameB_length]; omega)
              have hbd := bs_drop ho4 4
              rw [frame_tail] at hbd
              have hn5 : 5 ≤ (frameB x).length := by rw [frameB_length]; omega
              have hsl := fun W : World => slice4_run (W := W) gA _ _ hn5 hle4
              have hcy := fun n => HCY.out (w4.drewN n) _ (hbd.fr ((Fr.refl w4 (fun _ => False)).drewN n) (fun _ _ h => h))
              have hcy0 := HCY.out w4 _ hbd
              have HO4 := bk_hid ho4
              clear ho4 hbd
              go_wp2_with fail
              go_quiet (fail)
              clear hcx hcx0 hcy hcy0 hsl hck4
              have HZ5 := bk_hid (HZ4.out.fr ((Fr.refl w4 (fun _ => False)).drewN nq) (fun h => h) (fun _ _ h => h))
              have HB5 := bk_hid (HB4.out.trans (((Fr.refl w4 (fun _ => False)).drewN nq).below HB4.out.size (fun _ h => h.elim)))
              have HO5 := bk_hid (own_fr HO4.out ((Fr.refl w4 (fun _ => False)).drewN nq) (fun _ _ h => h))
              clear HZ4 HB4 HO4
              generalize w4.drewN nq = w5 at *
              have HFE := bk_hid (feed_any w.heap.size F vx 65536 fed told 0 _ (frameB x) w5 HZ5.out (own_bs HO5.out) HB5.out.size (by rw [frameB_length]; omega) (frameB_lt HX8.out))
              go_wp2_with fail
              refine HFE.out.mono ?_
              rintro e w6 ⟨rfl, vx6, hz6, hf6, _⟩
              rw [if_pos trivial] at hz6
              have HB6 := bk_hid (HZ5.out.below HB5.out hf6)
              have hd6 : (fed ++ frameB x).drop told = frameB x ++ [] := by rw [htl, List.drop_left, List.append_nil]
              have HNX := bk_hid (next_yes w.heap.size F vx6 65536 (fed ++ frameB x) told w6 hz6 HB6.out.size hz6.b8 [] x [] (by rw [List.append_nil, hd6]) x1 x2 (by omega) (by rw [hd6, List.append_nil, frameB_length]; omega))
              have HZ6 := bk_hid hz6
              clear hz6 hf6 HFE HZ5 HO5 hd6 HB5
              go_wp2_with fail
              refine HNX.out.mono ?_
              rintro e w7 ⟨P', hP, nv, vx7, fed7, told7, rfl, ho, hz, hd, hf, _, _, hlen⟩
              rw [List.append_nil] at hP
              rw [hP] at hd
              have HB7 := bk_hid (HZ6.out.below HB6.out hf)
              have HD7 := bk_hid hd
              have HZ7 := bk_hid hz
              have hl7 : fed7.length ≤ 2100000 + 70000 * (q + 1) := by rw [List.length_append, frameB_length] at hlen; omega
              obtain ⟨p7, q7, rfl⟩ := own_nil_shape ho
              have hbn := own_bs ho
              obtain ⟨hck7, hbx7⟩ := HCK.out _ HB7.out
              have hcx := fun n => HCX.out (w7.drewN n) (hbx7.fr ((Fr.refl w7 (fun _ => False)).drewN n) (fun _ _ h => h))
              have hcx0 := HCX.out w7 hbx7
              have hcy := fun n => HCY.out (w7.drewN n) _ (hbn.fr ((Fr.refl w7 (fun _ => False)).drewN n) (fun _ _ h => h))
              have hcy0 := HCY.out w7 _ hbn
              clear ho hz hd hf hP hlen HNX HZ6 HB6 hbn hbx7
              go_wp2_with fail
              go_quiet (fail)
              clear hcx hcx0 hcy hcy0 hck7
              have HZ8 := bk_hid (HZ7.out.fr ((Fr.refl w7 (fun _ => False)).drewN nq) (fun h => h) (fun _ _ h => h))
              have HB8b := bk_hid (HB7.out.trans (((Fr.refl w7 (fun _ => False)).drewN nq).below HB7.out.size (fun _ h => h.elim)))
              go_wp2_with fail
              go_roundg g
              case measure => omega
              case rel => exact ⟨q + 1, vx7, fed7, told7, by go_num, by have := HG.out; omega, hl7, HD7, HZ8, HB8b⟩
            · clear hcx hcx0 hck4 hx
              go_wp2_with fail
              go_quiet (fail)
              have HZ5 := bk_hid (HZ4.out.fr ((Fr.refl w4 (fun _ => False)).drewN nq) (fun h => h) (fun _ _ h => h))
              have HB5 := bk_hid (HB4.out.trans (((Fr.refl w4 (fun _ => False)).drewN nq).below HB4.out.size (fun _ h => h.elim)))
              clear HZ4 HB4
              generalize w4.drewN nq = w5 at *
              have HFE := bk_hid (feed_any w.heap.size F vx 65536 fed told 0 (.slice none 0 0) [] w5 HZ5.out (Or.inl ⟨rfl, rfl⟩) HB5.out.size (by simp; omega) (by simp))
              go_wp2_with fail
              refine HFE.out.mono ?_
              rintro e w6 ⟨rfl, vx6, hz6, hf6, _⟩
              rw [if_pos trivial, List.append_nil] at hz6
              have HB6 := bk_hid (HZ5.out.below HB5.out hf6)
              have HNX := bk_hid (next_none w.heap.size F vx6 65536 fed told w6 hz6 HE.out)
              have HZ6 := bk_hid hz6
              clear hz6 hf6 HFE HZ5 HB5
              unfold noFrame at HNX
              go_wp2_with fail
              refine HNX.out.mono ?_
              rintro e w7 ⟨rfl, nn, rfl⟩
              have HZ7 := bk_hid (HZ6.out.fr ((Fr.refl w6 (fun _ => False)).drewN nn) (fun h => h) (fun _ _ h => h))
              have HB7 := bk_hid (HB6.out.trans (((Fr.refl w6 (fun _ => False)).drewN nn).below HB6.out.size (fun _ h => h.elim)))
              clear HZ6 HB6 HNX
              generalize w6.drewN nn = w7 at *
              go_wp2_with fail
              go_quiet (fail)
              have HZ8 := bk_hid (HZ7.out.fr ((Fr.refl w7 (fun _ => False)).drewN nq) (fun h => h) (fun _ _ h => h))
              have HB8b := bk_hid (HB7.out.trans (((Fr.refl w7 (fun _ => False)).drewN nq).below HB7.out.size (fun _ h => h.elim)))
              go_wp2_with fail
              go_roundg g
              case measure => omega
              case rel => exact ⟨q + 1, vx6, fed, told, by go_num, by have := HG.out; omega, by omega, HE, HZ8, HB8b⟩
        | succ g =>
          have t1 : (q : Int) < (bs.length : Int) := by omega
          have t2 : (q : Int) < 15 := by omega
          have hq15 : q < 15 := by omega
          have g1 : q < bs.length := by omega
          have HG := bk_hid hg
          have HGG := bk_hid hg
          clear hg
          obtain ⟨b, off, V, rfl, hcells⟩ := HBC.out (by intro e; subst e; simp at g1)
          have hck := hcells q g1
          have HCK : Hid (∀ W : World, Below w.heap.size w W → W.cell? ⟨b, off + q, none⟩ = some (V q) ∧ Bs W (V q) (bs.getD q [])) := fun W hW => ⟨by
            rw [hW.cell (p := ⟨b, off + q, none⟩) (World.block_lt_of_cell? w _ hck.1)]
            exact hck.1, hck.2.fr (Fr.ofBelow (S := fun _ => False) hW) (fun _ _ h => h)⟩
          obtain ⟨x, hx⟩ : ∃ x, x = bs.getD q [] := ⟨_, rfl⟩
          have hxm : x ∈ bs := by rw [hx]; simp only [List.getD, List.getElem?_eq_getElem g1, Option.getD_some]; exact List.getElem_mem g1
          have HX8 := bk_hid (HB8.out x hxm)
          have hx2 := HB1.out x hxm
          rw [← hx] at HCK
          obtain ⟨aox, capx, hvk⟩ := slice_shape (HCK.out w (Below.refl _ _)).2
          rw [hvk] at HCK
          have hck1 := (HCK.out wr HA.out.below).1
          have HV1 := bk_hid (HCK.out wr HA.out.below).2
          have hVK : VK.length = xs.length := HA.out.k.vlen
          have hVW : VW.length = xs.length := HA.out.u.vlen
          clear hcells hck hvk hx hxm
          go_wp2_with fail
          refine (lend_any _ x _ HV1.out (by omega)).mono ?_
          rintro e w3 ⟨rfl, hr3, hf3⟩
          have HCL := bk_hid HA.out.clearNew
          have HA3 := bk_hid (HA.out.still hf3)
          have HR3 := bk_hid hr3
          have hsz3 : wr.heap.size < w3.heap.size := hr3.lt
          clear hr3 hf3 hck1 HV1
          generalize wr.heap.size = gm at *
          go_wp2_with fail
          refine (frame_every _ x _ (Row.bs HR3.out)).mono ?_
          rintro e w4 ⟨v4, hf4, hp4⟩
          have HR4 := bk_hid (HR3.out.fr hf4 (fun h => h))
          rcases hp4 with ⟨x1, x2, rfl, ho4⟩ | ⟨hx, rfl, rfl⟩
          · have HA4 := bk_hid (HA3.out.keep hf4 ho4)
            have HCL4 := bk_hid (HCL.out.keep (nv := v4) hVK (fun e => by have := (ho4.lt gm e).1; omega))
            have hs4 := hf4.size
            have HO4 := bk_hid ho4
            clear ho4 hf4
            go_wp2_with fail
            refine (frame_every _ x _ (Row.bs HR4.out)).mono ?_
            rintro e w5 ⟨v5, hf5, hp5⟩
            have HR5 := bk_hid (HR4.out.fr hf5 (fun h => h))
            rcases hp5 with ⟨_, _, rfl, ho5⟩ | ⟨hx, _, _⟩
            · have HA5 := bk_hid (HA4.out.keep hf5 ho5)
              have HCL5 := bk_hid (HCL4.out.keep (nv := v5) (by simp [hVK]) (fun e => by have := (ho5.lt gm e).1; omega))
              have HO45 := bk_hid (own_fr HO4.out hf5 (fun _ _ h => h))
              have HO5 := bk_hid ho5
              clear ho5 hf5 HO4
              have hck5 := (HCK.out w5 HA5.out.below).1
              have HV5 := bk_hid (HCK.out w5 HA5.out.below).2
              go_wp2_with fail
              refine (back_any gm _ x _ HR5.out HV5.out (by omega)).mono ?_
              rintro e w6 ⟨rfl, hf6⟩
              have HA6 := bk_hid (HA5.out.lent hf6 (by have := HCL5.out; simpa using this))
              clear hck5 HV5 hf6 HA5 HO45 HO5
              obtain ⟨ow4, ow5⟩ := HA6.out.two hVK
              obtain ⟨p4, q4, rfl⟩ := own_nil_shape ow4
              obtain ⟨p5, q5, rfl⟩ := own_nil_shape ow5
              have hfr : (frameB x).length ≤ 65540 := by rw [frameB_length]; omega
              have hfr2 : 5 ≤ (frameB x).length := by rw [frameB_length]; omega
              have hsz6 := HA6.out.size
              clear ow4 ow5
              go_wp2_with (at_builtin; refine wpList_append_keep _ rfl _ _ 49 rfl w.heap.size 24 i0 (.slice none 0 0) 24 Try.underlying49 hinfo hz0 hz1 hz2 rfl _ _ _ rfl (own_fr HA6.out.sk (alloc_fr w6 _ (fun _ => False)) (fun _ _ h => h)) ⟨w6.heap.size, 0, none⟩ 2 2 [_, _] rfl rfl (two_new8 w6 _ _ _) (fun x hx => by simp at hx; rcases hx with rfl | rfl <;> rfl) (by unfold maxLen; omega) (by omega) (by simp; omega) ?_; intro v7 w7 hown7 hgrow7 hat7 _; have HA7 := bk_hid (HA6.out.growK _ hown7 hgrow7 hat7); clear hown7 hgrow7 hat7)
              obtain ⟨ow4, ow5⟩ := HA7.out.two hVK
              refine (copied_any8 _ (frameB x) w7 (own_bs ow4) (by omega)).mono ?_
              rintro e w8 ⟨u8, rfl, hu8, hf8⟩
              have HB5 := bk_hid ((own_bs ow5).fr hf8 (fun _ _ h => h))
              have HA8 := bk_hid (HA7.out.want hf8 hu8)
              have HS8 := bk_hid (own_nil_shape hu8)
              clear ow4 ow5 hu8 hf8
              go_wp2_with fail
              refine (copied_any8 _ (frameB x) w8 HB5.out (by omega)).mono ?_
              rintro e w9 ⟨u9, rfl, hu9, hf9⟩
              have HA9 := bk_hid (HA8.out.want hf9 hu9)
              obtain ⟨p9, q9, rfl⟩ := own_nil_shape hu9
              obtain ⟨p8, q8, rfl⟩ := HS8.out
              have hsz9 := HA9.out.size
              clear hu9 hf9 HB5
              go_wp2_with (at_builtin; refine wpList_append_keep _ rfl _ _ 49 rfl w.heap.size 24 i0 (.slice none 0 0) 24 Try.underlying49 hinfo hz0 hz1 hz2 rfl _ _ _ rfl (own_fr HA9.out.sw (alloc_fr w9 _ (fun _ => False)) (fun _ _ h => h)) ⟨w9.heap.size, 0, none⟩ 2 2 [_, _] rfl rfl (two_new8 w9 _ _ _) (fun x hx => by simp at hx; rcases hx with rfl | rfl <;> rfl) (by unfold maxLen; omega) (by omega) (by simp; omega) ?_; intro v10 w10 hown10 hgrow10 hat10 _; have HA10 := bk_hid (HA9.out.growW _ hown10 hgrow10 hat10); clear hown10 hgrow10 hat10)
              obtain ⟨ow4, ow5⟩ := HA10.out.two hVK
              have hsz10 := HA10.out.size
              refine (feed_any w.heap.size F vx 65536 fed told 0 _ (frameB x) _ HA10.out.fz (own_bs ow4) (by omega) (by omega) (frameB_lt HX8.out)).mono ?_
              rintro e w11 ⟨rfl, vx11, hz11, hf11, hn11⟩
              rw [if_pos rfl] at hz11
              have HA11 := bk_hid (HA10.out.fx hz11 hf11 hn11)
              clear ow4 ow5 hz11 hf11 hn11
              obtain ⟨ow4, ow5⟩ := HA11.out.two hVK
              have hsz11 := HA11.out.size
              have HFB := bk_hid (feed_any w.heap.size F vx11 65536 (fed ++ frameB x) told 0 _ (frameB x) w11 HA11.out.fz (own_bs ow5) (by omega) (by rw [List.length_append]; omega) (frameB_lt HX8.out))
              clear ow4 ow5
              go_wp2_with fail
              refine HFB.out.mono ?_
              rintro e w12 ⟨rfl, vx12, hz12, hf12, hn12⟩
              rw [if_pos trivial] at hz12
              have HA12 := bk_hid (HA11.out.fx hz12 hf12 hn12)
              clear hz12 hf12 hn12 HFB
              have htold : told = fed.length := by
                have h1 := HA.out.fz.le
                have h2 := congrArg List.length HE.out
                rw [List.length_drop] at h2
                simp at h2
                omega
              have HRP : Hid ((fed ++ frameB x ++ frameB x).drop told = cat (List.replicate 2 x)) := by
                show _ = _
                rw [htold, List.append_assoc, List.drop_left]
                simp [cat, List.replicate]
              have HSH2 := bk_hid (((HSH.out.snoc (x := frameB x) (by omega)).snoc (x := frameB x) (by omega)))
              have hfl2 : (fed ++ frameB x ++ frameB x).length ≤ 140000 * (q + 1) := by simp only [List.length_append]; omega
              have hxl2 : (xs ++ [frameB x] ++ [frameB x]).length ≤ 5 + 4 * q := by simp; omega
              clear htold HA HA3 HA6 HA7 HA8 HA9 HA10 HA11 hVK hVW
              have e1 : VK ++ [Value.slice p4 (frameB x).length q4, Value.slice p5 (frameB x).length q5] = VK ++ [Value.slice p4 (frameB x).length q4] ++ [Value.slice p5 (frameB x).length q5] := by simp
              have e2 : VW ++ [Value.slice p8 (frameB x).length q8, Value.slice p9 (frameB x).length q9] = VW ++ [Value.slice p8 (frameB x).length q8] ++ [Value.slice p9 (frameB x).length q9] := by simp
              rw [e1, e2] at HA12
              clear e1 e2
              generalize fed ++ frameB x ++ frameB x = fed2 at *
              generalize xs ++ [frameB x] ++ [frameB x] = xs2 at *
              generalize VK ++ [Value.slice p4 (frameB x).length q4] ++ [Value.slice p5 (frameB x).length q5] = VK2 at *
              generalize VW ++ [Value.slice p8 (frameB x).length q8] ++ [Value.slice p9 (frameB x).length q9] = VW2 at *
              clear HE HG
              go_wp2_with fail
              go_loopg [9, 10, 18] 2 (fun g2 s9 s10 s18 wx => ∃ (k : Nat) (VK VW : List Value) (xs : List (List Nat)) (vx : Value) (fed : List Nat) (told : Nat), s18 = .int .i64 (k : Int) ∧ k + g2 = 2 ∧ xs.length + g2 ≤ 7 + 4 * q ∧ fed.length ≤ 140000 * (q + 1) ∧ Hid (fed.drop told = cat (List.replicate g2 x)) ∧ Hid (AW w F v bv vx s9 s10 tb fed told VK VW VK VW xs xs wx) ∧ Hid (Sh xs))
              case atStart => exact ⟨0, VK2, VW2, xs2, vx12, fed2, told, rfl, by omega, by omega, hfl2, HRP, HA12, HSH2⟩
              clear HA12 HRP HSH2 hfl2 hxl2
              obtain ⟨k, VK3, VW3, xs3, vx3, fed3, told3, rfl, hg3, hxl3, hfl3, HRP3, HA3, HSH3⟩ := hrel
              cases gk with
              | zero =>
                have t5 : ¬ (k : Int) < 2 := by omega
                go_wp2_with fail
                go_roundg g
                case measure => omega
                case rel => exact ⟨q + 1, VK3, VW3, xs3, vx3, fed3, told3, by go_num, by have := HGG.out; omega, by omega, hfl3, HRP3, HA3, HSH3⟩
              | succ g2 =>
                have t5 : (k : Int) < 2 := by omega
                have hVK : VK3.length = xs3.length := HA3.out.k.vlen
                have hVW : VW3.length = xs3.length := HA3.out.u.vlen
                have hsz3 := HA3.out.size
                have hrp : fed3.drop told3 = frameB x ++ cat (List.replicate g2 x) := HRP3.out
                have HNX := bk_hid (next_yes w.heap.size F vx3 65536 fed3 told3 _ HA3.out.fz (by omega) HA3.out.fz.b8 [] x (cat (List.replicate g2 x)) (by rw [List.append_nil, hrp]) x1 x2 (by omega) (by rw [hrp, List.length_append, frameB_length]; omega))
                have HG3 := bk_hid (And.intro hg3 (And.intro hxl3 hfl3))
                clear hrp HRP3 hg3 hxl3 hfl3
                go_wp2_with fail
                refine HNX.out.mono ?_
                rintro e w13 ⟨P', hP, nv, vx4, fed4, told4, rfl, ho, hz, hd, hf, hn, hx, hlen⟩
                have HA4 := bk_hid (HA3.out.next ho hz hf hn hx)
                have HD := bk_hid (show fed4.drop told4 = cat (List.replicate g2 x) by rw [hd, ← hP, List.append_nil])
                have HLE := bk_hid hlen
                obtain ⟨p4, q4, rfl⟩ := own_nil_shape ho
                have hsz4 := HA4.out.size
                have hxb : xs3.length ≤ 70 := by have := HG3.out; omega
                clear ho hz hf hn hx hd hP hlen HNX HA3
                go_wp2_with (at_builtin; refine wpList_append_keep _ rfl _ _ 49 rfl w.heap.size 24 i0 (.slice none 0 0) 24 Try.underlying49 hinfo hz0 hz1 hz2 rfl _ _ _ rfl (own_fr HA4.out.sk (alloc_fr w13 _ (fun _ => False)) (fun _ _ h => h)) ⟨w13.heap.size, 0, none⟩ 1 1 [_] rfl rfl (cells_new w13 _ _) (fun x hx => by simp at hx; subst hx; rfl) (by unfold maxLen; omega) (by omega) (by simp; omega) ?_; intro v5 w14 hown5 hgrow5 hat5 _; have HA5 := bk_hid (HA4.out.growK _ hown5 hgrow5 hat5); have hck := (HCK.out w14 HA5.out.below).1; clear hown5 hgrow5 hat5)
                refine (copied_any8 _ x w14 (HCK.out w14 HA5.out.below).2 (by omega)).mono ?_
                rintro e w15 ⟨u5, rfl, ho5, hf5⟩
                have HA6 := bk_hid (HA5.out.want hf5 ho5)
                obtain ⟨p5, q5, rfl⟩ := own_nil_shape ho5
                have hsz6 := HA6.out.size
                clear ho5 hf5 HA4 HA5 hck
                go_wp2_with (at_builtin; refine wpList_append_keep _ rfl _ _ 49 rfl w.heap.size 24 i0 (.slice none 0 0) 24 Try.underlying49 hinfo hz0 hz1 hz2 rfl _ _ _ rfl (own_fr HA6.out.sw (alloc_fr w15 _ (fun _ => False)) (fun _ _ h => h)) ⟨w15.heap.size, 0, none⟩ 1 1 [_] rfl rfl (cells_new w15 _ _) (fun x hx => by simp at hx; subst hx; rfl) (by unfold maxLen; omega) (by omega) (by simp; omega) ?_; intro v7 w16 hown7 hgrow7 hat7 _; have HA7 := bk_hid (HA6.out.growW _ hown7 hgrow7 hat7); clear hown7 hgrow7 hat7)
                go_roundg g2
                case measure => omega
                case rel => exact ⟨k + 1, _, _, xs3 ++ [x], vx4, fed4, told4, by go_num, by have := HG3.out; omega, by have := HG3.out; simp; omega, by have := HG3.out; have := HLE.out; omega, HD, HA7, HSH3.out.snoc (by omega)⟩
            · exact absurd ⟨x1, x2⟩ hx
          · have HA4 := bk_hid (HA3.out.still hf4)
            have HX := bk_hid hx
            clear hf4 hx HA3
            go_wp2_with fail
            refine (frame_every _ x _ (Row.bs HR4.out)).mono ?_
            rintro e w5 ⟨v5, hf5, hp5⟩
            have HR5 := bk_hid (HR4.out.fr hf5 (fun h => h))
            rcases hp5 with ⟨y1, y2, _, _⟩ | ⟨_, rfl, rfl⟩
            · exact absurd ⟨y1, y2⟩ HX.out
            · have HA5 := bk_hid (HA4.out.still hf5)
              clear hf5 HA4 HR4
              have hck5 := (HCK.out w5 HA5.out.below).1
              have HV5 := bk_hid (HCK.out w5 HA5.out.below).2
              go_wp2_with fail
              refine (back_any gm _ x _ HR5.out HV5.out (by omega)).mono ?_
              rintro e w6 ⟨rfl, hf6⟩
              have HA6 := bk_hid (HA5.out.lent hf6 HCL.out)
              clear hck5 HV5 hf6 HA5
              go_wp2_with fail
              go_roundg g
              case measure => omega
              case rel => exact ⟨q + 1, VK, VW, xs, vx, fed, told, by go_num, by have := HGG.out; omega, by omega, by omega, HE, HA6, HSH⟩
    | succ g =>
      have t1 : (i : Int) < 3 := by omega
      have HG := bk_hid hg
      clear hg
      have hVK : VK.length = xs.length := HA.out.k.vlen
      have hVW : VW.length = xs.length := HA.out.u.vlen
      go_wp2_with fail
      refine (bytes_any w.heap.size w.heap.size v tb _ HA.out.wr (by omega)).mono ?_
      rintro e w3 ⟨x3, rfl, ho3, hf3⟩
      have HA3 := bk_hid (HA.out.keep hf3 ho3)
      obtain ⟨p3, q3, rfl⟩ := own_nil_shape ho3
      have hsz3 := HA3.out.size
      clear ho3 hf3
      go_wp2_with (at_builtin; refine wpList_append_keep _ rfl _ _ 49 rfl w.heap.size 24 i0 (.slice none 0 0) 24 Try.underlying49 hinfo hz0 hz1 hz2 rfl _ _ _ rfl (own_fr HA3.out.sk (alloc_fr w3 _ (fun _ => False)) (fun _ _ h => h)) ⟨w3.heap.size, 0, none⟩ 1 1 [_] rfl rfl (cells_new w3 _ _) (fun x hx => by simp at hx; subst hx; rfl) (by unfold maxLen; omega) (by omega) (by simp; omega) ?_; intro v4 w4 hown4 hgrow4 hat4 _; have HA4 := bk_hid (HA3.out.growK _ hown4 hgrow4 hat4); clear hown4 hgrow4 hat4)
      have HCP := bk_hid (copied_any8 bv tb w4 (own_bs HA4.out.bo) (by omega))
      refine HCP.out.mono ?_
      rintro e w5 ⟨u5, rfl, ho5, hf5⟩
      have HA5 := bk_hid (HA4.out.want hf5 ho5)
      obtain ⟨p5, q5, rfl⟩ := own_nil_shape ho5
      have hsz5 := HA5.out.size
      clear ho5 hf5 HCP
      go_wp2_with (at_builtin; refine wpList_append_keep _ rfl _ _ 49 rfl w.heap.size 24 i0 (.slice none 0 0) 24 Try.underlying49 hinfo hz0 hz1 hz2 rfl _ _ _ rfl (own_fr HA5.out.sw (alloc_fr w5 _ (fun _ => False)) (fun _ _ h => h)) ⟨w5.heap.size, 0, none⟩ 1 1 [_] rfl rfl (cells_new w5 _ _) (fun x hx => by simp at hx; subst hx; rfl) (by unfold maxLen; omega) (by omega) (by simp; omega) ?_; intro v6 w6 hown6 hgrow6 hat6 _; have HA6 := bk_hid (HA5.out.growW _ hown6 hgrow6 hat6); clear hown6 hgrow6 hat6)
      go_roundg g
      case measure => omega
      case rel => exact ⟨i + 1, _, _, _, by go_num, by have := HG.out; omega, by simp [hxl], HA6, HSH.out.snoc (by omega)⟩
end Go.Proofs.Ytmadlmbpgkifoab
