/- WirePieces: the walk. -/
import Derived.Test.YtdhobmnljniccaaHead
import Derived.Test.YtdhobmnljniccaaPw
import Derived.Test.YtdhobmnljniccaaBulk
import Derived.ProofKit
import Derived.OpenShut
import Derived.Below
import Derived.WalkSmall
import Derived.JoinedCond
import Derived.Deep.DeepCutAuto
import Derived.Deep.Slices
namespace Go.Proofs.Ytdhobmnljniccaa
open Go.ChangeShapes Go.WideShapes Go.ChangeAt Go.RowKit
attribute [local go_sem ↓] Go.wp_at_zero Go.wp_at_succ

theorem piecesOwn : ownKnob Try.prog.godebug = none := by kernel_rfl
theorem piecesLaid : laidOutB Try.prog = true := by kernel_rfl
theorem convP {W : World} {v : Value} {xs : List Nat} (h : Bs W v xs) : (convert 27 9 v).run Try.prog W = .ok (.string (str8 xs)) W :=
  run_str8 Try.underlying27 Try.underlying5 Try.underlying9 h

set_option maxHeartbeats 4000000 in
set_option maxRecDepth 100000 in
theorem pieces_bad (most : Int) (bv cv : Value) (bs : List (List Nat)) (w : World) (hm : most < 1 ∨ 65536 < most) (hbs : Bss w bv bs) (hbl : bs.length ≤ 140737488355328) :
    Calls Try.prog 7 #[.int .i64 most, bv, cv] w fun e w' => e = .returned (.bool true) ∧ Below w.heap.size w w' := by
  obtain ⟨bao, bcap, rfl, hbcell⟩ := hbs
  clear hbcell
  go_enter Try.func7, Try.ntmps7
  go_wp2_with fail
  refine (new_bad most _ hm).mono ?_
  rintro e w1 ⟨rfl, hw1⟩
  have hw1 := hw1.symm
  subst hw1
  go_wp2_with fail
  refine (rnew_bad most _ hm).mono ?_
  rintro e w1 ⟨rfl, hw1⟩
  have hw1 := hw1.symm
  subst hw1
  have HM := hid hm
  clear hm
  go_wp2_with fail
  go_loopw [11] (fun i wx => i = .int .i64 0 ∧ wx = w) (fun _ _ => 0)
  case atStart => exact ⟨rfl, rfl⟩
  case round =>
    obtain ⟨rfl, rfl⟩ := hrel
    by_cases hl : 0 < bs.length
    · have t1 : (0 : Int) < (bs.length : Int) := by omega
      go_wp2_with (go_at_call 9; refine (head_any _).mono ?_; rintro e w7 ⟨rfl, hb7⟩; have HB7 := hid hb7; clear hb7)
      go_ret
      exact ⟨rfl, HB7.out⟩
    · have t1 : ¬ (0 : Int) < (bs.length : Int) := by omega
      go_wp2_with (go_at_call 9; refine (head_any _).mono ?_; rintro e w7 ⟨rfl, hb7⟩; have HB7 := hid hb7; clear hb7)
      go_ret
      exact ⟨rfl, HB7.out⟩

theorem len_feed (c : Prop) [Decidable c] (a x : List Nat) (k M : Nat) (h : a.length ≤ k * M) (hx : x.length ≤ M) : (if c then a ++ x else a).length ≤ (k + 1) * M ∧ (if c then a else a ++ x).length ≤ (k + 1) * M := by
  rw [Nat.succ_mul]
  constructor
  · split
    · rw [List.length_append]; omega
    · omega
  · split
    · omega
    · rw [List.length_append]; omega

set_option maxHeartbeats 4000000 in
set_option maxRecDepth 100000 in
theorem pieces_good (most : Nat) (bv cv : Value) (bs : List (List Nat)) (cs : List Int) (w : World) (hm1 : 1 ≤ most) (hm2 : most ≤ 65536) (hbs : Bss w bv bs) (hcs : Css w cv cs) (hbl : bs.length ≤ 140737488355328) (hb8 : ∀ g ∈ bs, ∀ j, g.getD j 0 < 256) (hgl : ∀ g ∈ bs, g.length ≤ 1048576) :
    Calls Try.prog 7 #[.int .i64 (most : Int), bv, cv] w fun e w' => e = .returned (.bool true) ∧ Below w.heap.size w w' := by
  obtain ⟨bao, bcap, rfl, hbcell⟩ := hbs
  obtain ⟨cao, ccap, rfl, hcl0, hccell⟩ := hcs
  have HCC := hid hccell
  have HBC := hid hbcell
  have HB8 := hid hb8
  have HGL := hid hgl
  clear hbcell hb8 hccell hgl
  go_enter Try.func7, Try.ntmps7
  go_wp2_with fail
  refine (new_ok most _ hm1 hm2).mono ?_
  rintro e w1 ⟨rfl, hz1, hf1, hl1⟩
  have HZ1 := hid hz1
  have HF1 := hid hf1
  clear hz1 hf1
  go_wp2_with fail
  refine (rnew_ok most _ hm1 hm2).mono ?_
  rintro e w2 ⟨rfl, hz2, hf2, hl2⟩
  have HP0 : Hid (PW w w1.heap.size most (.slice none 0 0) (.slice none 0 0) [] 0 0 [] false w2) :=
    ⟨HZ1.out.fr hf2 (fun h => h) (fun _ _ h => h), ⟨hz2.cell, Of.nil _ _ _, hz2.nf, by omega⟩, fun k hk => by simp [Value.ownBlock] at hk, by simp [Value.ownBlock], by omega, (HF1.out.trans hf2).below (Nat.le_refl _) (fun _ h => h.elim)⟩
  have hsz2 : w1.heap.size < w2.heap.size := hl2
  clear hz2 hf2 HZ1 HF1 hl2
  generalize w1.heap.size = G at *
  go_wp2_with fail
  go_loopw [11] (fun i wx => ∃ (k : Nat) (vx vr : Value) (fed : List Nat) (told br : Nat) (B : List Nat) (bb : Bool), k ≤ bs.length ∧ k ≤ 100 ∧ i = .int .i64 (k : Int) ∧ Hid (PW w G most vx vr fed told br B bb wx) ∧ Hid (Ahead fed told br B bb) ∧ Hid (∀ j, B.getD j 0 < 256) ∧ fed.length ≤ k * 1048576 ∧ B.length ≤ k * 1048576) (fun i _ => 100 - (intOf i).toNat)
  case atStart => exact ⟨0, _, _, [], 0, 0, [], false, Nat.zero_le _, by omega, rfl, HP0, Or.inl ⟨rfl, rfl, rfl⟩, fun j => by simp, by simp, by simp⟩
  case round =>
    obtain ⟨k, vx, vr, fed, told, br, B, bb, hk, hk100, rfl, HP, HA, HBB, hfl, hBl⟩ := hrel
    by_cases hgo : k < bs.length ∧ k < 100
    · obtain ⟨g1, g2⟩ := hgo
      obtain ⟨b, off, V, rfl, hcells⟩ := HBC.out (by intro e; subst e; simp at g1)
      have hck := hcells k g1
      have HCK : Hid (∀ W : World, Below w.heap.size w W → W.cell? ⟨b, off + k, none⟩ = some (V k) ∧ Bs W (V k) (bs.getD k [])) := fun W hW => ⟨by
        rw [hW.cell (p := ⟨b, off + k, none⟩) (World.block_lt_of_cell? w _ hck.1)]
        exact hck.1, hck.2.fr (Fr.ofBelow (S := fun _ => False) hW) (fun _ _ h => h)⟩
      obtain ⟨x, hx⟩ : ∃ x, x = bs.getD k [] := ⟨_, rfl⟩
      have hxm : x ∈ bs := by rw [hx]; simp only [List.getD, List.getElem?_eq_getElem g1, Option.getD_some]; exact List.getElem_mem g1
      have HX8 := hid (HB8.out x hxm)
      have hxl := HGL.out x hxm
      rw [← hx] at HCK
      obtain ⟨aox, capx, hvk⟩ := slice_shape (HCK.out w (Below.refl _ _)).2
      rw [hvk] at HCK
      have hck1 := (HCK.out wr HP.out.below).1
      have HV1 := hid (HCK.out wr HP.out.below).2
      have t1 : (k : Int) < (bs.length : Int) := by omega
      have t2 : (k : Int) < 100 := by omega
      have hwN := HP.out.below.size
      have hGs := lt_of_block HP.out.rz.cell
      have hNs := lt_of_block HP.out.fz.cell
      clear hcells hck hvk hx hxm
      go_wp2_with fail
      refine (lend_any _ x _ HV1.out (by omega)).mono ?_
      rintro e w3 ⟨rfl, hrow, hf3⟩
      have HP3 := hid (HP.out.none hf3)
      have HROW := hid hrow
      have hs3 := hf3.size
      clear hrow hf3 hck1 HV1
      go_wp2_with fail
      refine (feed_any w.heap.size w.heap.size vx most fed told br _ x _ HP3.out.fz HROW.out.bs (by omega) (by omega) HX8.out).mono ?_
      rintro e w4 ⟨rfl, vx4, hz4, hf4, hn4⟩
      have HP4 := hid (HP3.out.x hz4 hf4 hn4)
      have HROW4 := hid (HROW.out.fr hf4 (fun s => by
        rcases s with s | s
        · omega
        · have := (HP.out.fz.own.lt _ s).2
          omega))
      have HX4 : Hid (vx4.ownBlock ≠ some wr.heap.size) := fun e => by
        have hlt := HROW.out.lt
        rcases hn4 _ e with s | s
        · have := (HP.out.fz.own.lt _ s).2
          omega
        · omega
      have hs4 := hf4.size
      have hck4 := (HCK.out w4 HP4.out.below).1
      have HV4 := hid (HCK.out w4 HP4.out.below).2
      clear hz4 hf4 hn4
      go_wp2_with fail
      refine (rfeed_any w.heap.size G vr most B bb _ x _ HP4.out.rz HV4.out (by omega) (by omega)).mono ?_
      rintro e w5 ⟨rfl, vr5, hz5, hf5, hn5⟩
      have HP5 := hid (HP4.out.r hz5 hf5 hn5)
      have HROW5 := hid (HROW4.out.fr hf5 (fun s => by
        rcases s with s | s
        · omega
        · have := (HP.out.rz.own.lt s).2
          omega))
      have HR5 : Hid (vr5.ownBlock ≠ some wr.heap.size) := fun e => by
        have hlt := HROW.out.lt
        rcases hn5 _ e with s | s
        · have := (HP.out.rz.own.lt s).2
          omega
        · omega
      have hs5 := hf5.size
      have HA5 := hid (HA.out.feed HP.out.fz.le x)
      have HB5 : Hid (∀ j, (if bb then B else B ++ x).getD j 0 < 256) := by
        show ∀ j, (if bb then B else B ++ x).getD j 0 < 256
        split
        · exact HBB.out
        · exact getD_append_lt HBB.out HX8.out
      have hfl5 := (len_feed (br = 0) fed x k 1048576 hfl hxl).1
      have hBl5 := (len_feed (bb = true) B x k 1048576 hBl hxl).2
      clear hz5 hf5 hn5 hck4 HV4 HP4 HP3 HROW HROW4 HA HBB
      generalize (if br = 0 then fed ++ x else fed) = fed5 at *
      generalize (if bb then B else B ++ x) = B5 at *
      go_upto_region 11 with fail
      go_cut [85] (fun s85 wx => s85 = .bool false ∧ Hid (PW w G most vx4 vr5 fed5 told br B5 bb wx))
      case first =>
        have hck5 := (HCK.out w5 HP5.out.below).1
        have hck5d := (HCK.out w5.drew (HP5.out.drewN 1).below).1
        have HV5 := hid (HCK.out w5 HP5.out.below).2
        obtain ⟨aor, capr, hvr, _, _⟩ := HP5.out.rz.own.shape
        have HHd : Hid (heldN fed5 told br = B5.length) := HA5.out.held
        subst hvr
        have HS5 : Hid (∀ k, k = wr.heap.size → w.heap.size ≤ k ∧ k ≠ w.heap.size ∧ k ≠ G ∧ vx4.ownBlock ≠ some k ∧ (Value.slice aor B5.length capr).ownBlock ≠ some k) := by
          rintro k rfl
          exact ⟨hwN, by omega, by omega, HX4.out, HR5.out⟩
        go_region_with (first
          | (go_at_call 17; go_must (refine (back_any wr.heap.size _ x _ ?_ ?_ (by omega)).mono ?_; (first | exact HROW5.out | exact HROW5.out.fr ((Fr.refl w5 (fun _ => False)).drewN 1) (fun h => h)); (first | exact HV5.out | exact HV5.out.fr ((Fr.refl w5 (fun _ => False)).drewN 1) (fun _ _ h => h))); rintro e w6 ⟨rfl, hf6⟩; have HP6 : Hid (PW w G most vx4 (.slice aor B5.length capr) fed5 told br B5 bb w6) := (by first | exact HP5.out.fr hf6 HS5.out | exact (HP5.out.drewN 1).fr hf6 HS5.out); clear hf6; obtain ⟨c0, c1, c2⟩ := three_cells HP6.out.rz.cell)
          | (go_at_call 22; refine (held_any _ _ _ most fed5 told br _ HP6.out.fz).mono ?_; rintro e w7 ⟨rfl, n7, rfl⟩; have HP7 := hid (HP6.out.drewN n7); rw [HHd.out]; obtain ⟨c0, c1, c2⟩ := three_cells HP7.out.rz.cell))
        all_goals go_wp2
        all_goals go_meet
        all_goals exact ⟨rfl, HP7⟩
      case rest =>
        obtain ⟨rfl, HPc⟩ := hcut
        clear HP5 HROW5 HX4 HR5
        go_upto_if 88 with fail
        go_cut [13] (fun s13 wx => wx = wc ∧ ∃ m : Nat, s13 = .int .i64 (m : Int) ∧ m ≤ 40)
        case first =>
          by_cases hcp : 0 < cs.length
          · have hcp' : (0 : Int) < (cs.length : Int) := by omega
            obtain ⟨cb, coff, hcao, hcc⟩ := HCC.out (List.length_pos_iff.1 hcp)
            subst hcao
            have him : k % cs.length < cs.length := Nat.mod_lt _ hcp
            have hcw := hcc (k % cs.length) him
            have hcr : wc.cell? ⟨cb, coff + k % cs.length, none⟩ = some (.int .i64 (cs.getD (k % cs.length) 0)) := by
              rw [HPc.out.below.cell (p := ⟨cb, coff + k % cs.length, none⟩) (World.block_lt_of_cell? w _ hcw)]
              exact hcw
            generalize cs.getD (k % cs.length) 0 = cc at *
            obtain ⟨rr, hrr, hrl⟩ : ∃ rr : Nat, cc % 4 = (rr : Int) ∧ rr < 4 := ⟨(cc % 4).toNat, by omega, by omega⟩
            have HRR := hid hrr
            clear hcc hcw hrr
            go_wp2_with fail
            refine (round_any cc 4 _ (by decide) (by decide)).mono ?_
            rintro e w5 ⟨rfl, hw5⟩
            have hw5 := hw5.symm
            subst hw5
            rw [HRR.out]
            go_wp2
            go_meet
            exact ⟨rfl, rr, rfl, by omega⟩
          · have hcp' : ¬ (0 : Int) < (cs.length : Int) := by omega
            go_wp2
            go_meet
            exact ⟨rfl, 0, rfl, by omega⟩
        case rest =>
          obtain ⟨rfl, m0, rfl, hm0⟩ := hcut
          go_upto_if 101 with fail
          go_cut [13] (fun s13 wx => wx = wc ∧ ∃ m : Nat, s13 = .int .i64 (m : Int) ∧ m ≤ 40)
          case first =>
            by_cases hlast : k = bs.length - 1
            · have hl' : (k : Int) = (bs.length : Int) - 1 := by omega
              have hl2 : ((k : Int) == (bs.length : Int) - 1) = true := by simpa using hl'
              clear hl' hlast
              go_wp2
              go_meet
              exact ⟨rfl, 40, rfl, by omega⟩
            · have hl' : ¬ (k : Int) = (bs.length : Int) - 1 := by omega
              have hl2 : ((k : Int) == (bs.length : Int) - 1) = false := by simpa using hl'
              clear hl' hlast
              go_wp2
              go_meet
              exact ⟨rfl, m0, rfl, by omega⟩
          case rest =>
            obtain ⟨rfl, m1, rfl, hm1'⟩ := hcut
            go_wp2_with fail
            go_loopw [14] (fun kk wx => ∃ (q : Nat) (vx vr : Value) (fed : List Nat) (told br : Nat) (B : List Nat) (bb : Bool), q ≤ 40 ∧ q ≤ m1 ∧ kk = .int .i64 (q : Int) ∧ Hid (PW w G most vx vr fed told br B bb wx) ∧ Hid (Ahead fed told br B bb) ∧ Hid (∀ j, B.getD j 0 < 256) ∧ fed.length ≤ (k + 1) * 1048576 ∧ B.length ≤ (k + 1) * 1048576) (fun kk _ => 40 - (intOf kk).toNat)
            case atStart => exact ⟨0, _, _, _, _, _, _, _, by omega, by omega, rfl, HPc, HA5, HB5, hfl5, hBl5⟩
            case round =>
              obtain ⟨q, vx7, vr7, fed7, told7, br7, B7, bb7, hq40, hqm, rfl, HP7, HA7, HB7, hfl7, hBl7⟩ := hrel
              by_cases hq : q < m1
              · have tq : (q : Int) < (m1 : Int) := by omega
                obtain ⟨r, hr⟩ : ∃ r, r = nx most B7 bb7 := ⟨_, rfl⟩
                have hlt7 := nx_lt most B7 bb7 HB7.out
                have HX7 := hid (xnext_any w.heap.size w.heap.size vx7 most fed7 told7 br7 B7 bb7 _ HP7.out.fz HP7.out.below.size HA7.out)
                have HR7 := hid (fun W h => rnext_any w.heap.size G vr7 most B7 bb7 W h HB7.out)
                rw [← hr] at hlt7 HX7 HR7
                clear hr
                obtain ⟨ys, ok, gg, B8, bb8⟩ := r
                have HB8' := hid hlt7.2.1
                have hBl8 : B8.length ≤ (k + 1) * 1048576 := Nat.le_trans hlt7.2.2 hBl7
                have hsG := lt_of_block HP7.out.rz.cell
                clear hlt7
                go_wp2_with fail
                refine HX7.out.mono ?_
                rintro e w8 ⟨bv8, vx8, fed8, told8, br8, rfl, ho8, hz8, ha8, hf8, hn8, hbn8, hl8⟩
                unfold toldE
                have HP8 := hid (HP7.out.x hz8 hf8 hn8)
                have HA8 : Hid (Ahead fed8 told8 br8 B8 bb8) := ha8
                have HO8 : Hid (w8.ownsRow _ 5 1 bv8 ys.length (by8 ys)) := ho8
                have hfl8 : fed8.length ≤ (k + 1) * 1048576 := Nat.le_trans hl8 hfl7
                obtain ⟨ao8, cap8, rfl⟩ := own_nil_shape HO8.out
                clear ho8 hz8 ha8 hf8 hn8 hbn8 hl8
                go_wp2_with fail
                refine (HR7.out _ HP8.out.rz).mono ?_
                rintro e w9 ⟨wv9, vr9, rfl, ho9, hz9, hf9, hn9⟩
                unfold toldE
                have HP9 : Hid (PW w G most vx8 vr9 fed8 told8 br8 B8 bb8 w9) := HP8.out.r hz9 hf9 (fun k hk => Or.inl (by rw [← hn9]; exact hk))
                have HO9 : Hid (w9.ownsRow _ 5 1 wv9 ys.length (by8 ys)) := ho9
                obtain ⟨ao9, cap9, rfl⟩ := own_nil_shape HO9.out
                have hv1 := own_fr HO8.out hf9 (fun k hk h => by
                  have := (HO8.out.lt k hk).1
                  rcases h with h | h
                  · omega
                  · have := (HP7.out.rz.own.lt h).2
                    omega)
                have hq1 := fun n => convP ((own_bs hv1).fr ((Fr.refl w9 (fun _ => False)).drewN n) (fun _ _ h => h))
                have hq2 := fun n => convP ((own_bs HO9.out).fr ((Fr.refl w9 (fun _ => False)).drewN n) (fun _ _ h => h))
                generalize str8 ys = SS at hq1 hq2
                obtain ⟨aor, capr, hvr, _, _⟩ := HP9.out.rz.own.shape
                subst hvr
                have HHd : Hid (heldN fed8 told8 br8 = B8.length) := HA8.out.held
                have HP10 := hid (fun n => HP9.out.drewN n)
                obtain ⟨c0, c1, c2⟩ := three_cells HP9.out.rz.cell
                clear ho9 hz9 hf9 hn9 hv1 HX7 HR7
                go_wp2_with fail
                go_quiet ((go_at_call 22; exact Calls.quiet_of (held_any _ _ _ most fed8 told8 br8 _ (HP10.out _).fz)))
                rw [HHd.out]
                go_wp2
                exact ⟨⟨q + 1, vx8, _, fed8, told8, br8, B8, bb8, by omega, by omega, by go_num, hid (HP10.out _), HA8, HB8', hfl8, hBl8⟩, by simp [intOf]; omega⟩
              · have tq : ¬ (q : Int) < (m1 : Int) := by omega
                go_wp2
                exact ⟨⟨k + 1, vx7, vr7, fed7, told7, br7, B7, bb7, by omega, by omega, by go_num, HP7, HA7, HB7, hfl7, hBl7⟩, by simp [intOf]; omega⟩
    · by_cases g1 : k < bs.length
      · have t1 : (k : Int) < (bs.length : Int) := by omega
        have t2 : ¬ (k : Int) < 100 := by omega
        go_wp2_with (go_at_call 9; refine (head_any _).mono ?_; rintro e w7 ⟨rfl, hb7⟩; have HB7 := hid (HP.out.below.trans (hb7.mono HP.out.below.size)); clear hb7)
        go_ret
        exact ⟨rfl, HB7.out⟩
      · have t1 : ¬ (k : Int) < (bs.length : Int) := by omega
        go_wp2_with (go_at_call 9; refine (head_any _).mono ?_; rintro e w7 ⟨rfl, hb7⟩; have HB7 := hid (HP.out.below.trans (hb7.mono HP.out.below.size)); clear hb7)
        go_ret
        exact ⟨rfl, HB7.out⟩

theorem pieces_walk (most : Int) (bv cv : Value) (bs : List (List Nat)) (cs : List Int) (w : World) (hbs : Bss w bv bs) (hcs : Css w cv cs) (hbl : bs.length ≤ 140737488355328) (hb8 : ∀ g ∈ bs, ∀ j, g.getD j 0 < 256) (hgl : ∀ g ∈ bs, g.length ≤ 1048576) :
    Calls Try.prog 7 #[.int .i64 most, bv, cv] w fun e w' => e = .returned (.bool true) ∧ Below w.heap.size w w' := by
  by_cases hm : most < 1 ∨ 65536 < most
  · exact pieces_bad most bv cv bs w hm hbs hbl
  · obtain ⟨m, rfl⟩ := Int.eq_ofNat_of_zero_le (show 0 ≤ most by omega)
    exact pieces_good m bv cv bs cs w (by omega) (by omega) hbs hcs hbl hb8 hgl
end Go.Proofs.Ytdhobmnljniccaa
