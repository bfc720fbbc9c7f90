/- NetCarries: the walk. -/
import Derived.Test.YtljkbnjdciljfaaNCarP
import Derived.Deep.LoopGhost
namespace Go.Proofs.Ytljkbnjdciljfaa
open Go.RowKit

def Box (W : World) (N : Nat) (k c : Int) (v : Value) (mx : Int) : Prop := W.heap[N]? = some (.cells #[.int .i64 k, .int .i64 c, v, .int .i64 mx] 35 (0, 0))
theorem Box.cells {W : World} {N : Nat} {k c : Int} {v : Value} {mx : Int} (h : Box W N k c v mx) : W.cell? ⟨N, 0, none⟩ = some (.int .i64 k) ∧ W.cell? ⟨N, 2, none⟩ = some v ∧ W.cell? ⟨N, 3, none⟩ = some (.int .i64 mx) ∧ N < W.heap.size := by
  have h' : W.heap[N]? = some (.cells #[.int .i64 k, .int .i64 c, v, .int .i64 mx] 35 (0, 0)) := h
  exact ⟨by simp [World.cell?, h'], by simp [World.cell?, h'], by simp [World.cell?, h'], lt_of_block h'⟩
theorem Box.keep {W W' : World} {N : Nat} {k c : Int} {v : Value} {mx : Int} (h : Box W N k c v mx) (he : W'.heap[N]? = W.heap[N]?) : Box W' N k c v mx := he.trans h
theorem Box.fr {W W' : World} {N : Nat} {k c : Int} {v : Value} {mx : Int} (h : Box W N k c v mx) (hf : Fr W W' (fun _ => False)) : Box W' N k c v mx := keep_block h hf (fun h => h)
theorem bs_front {w : World} {lo : Nat} {ao : Option Addr} {n cap : Nat} {xs : List Nat} (h : Rw w lo 5 (.slice ao n cap) xs) (q : Nat) (hq : q ≤ xs.length) : Bs w (.slice ao q cap) (xs.take q) := bs_take (bs_all h) q hq
theorem ex_frame {R : (Nat → Value) → Prop} {F : (Nat → Value) → Act} {a : Act} (h1 : R (fun n => a.tmps.toList.getD n undef)) (h2 : a = F (fun n => a.tmps.toList.getD n undef)) : ∃ u, R u ∧ a = F u := ⟨_, h1, h2⟩
set_option maxHeartbeats 32000000 in
set_option maxRecDepth 100000 in
theorem carries_walk {w : World} (n0 n1 : Int) {v2 : Value} {L : List Sp} (hL : Sps w v2 L) : Calls Try.prog 7 #[.int .i64 n0, .int .i64 n1, v2] w fun e w' => e = .returned (.bool true) ∧ Fr w w' (fun _ => False) := by
  obtain ⟨i0, hi, hz0, hz1, hz2⟩ := info_parts Try.info5
  have HW0 := hid (within_any n0 40 (by omega) (by omega) w)
  have HW1 := hid (within_any n1 40 (by omega) (by omega) w)
  obtain ⟨q0, hq0⟩ : ∃ q : Nat, n0 % 40 = (q : Int) := ⟨(n0 % 40).toNat, by omega⟩
  obtain ⟨q1, hq1⟩ : ∃ q : Nat, n1 % 40 = (q : Int) := ⟨(n1 % 40).toNat, by omega⟩
  have hl0 : q0 < 40 := by omega
  have hl1 : q1 < 40 := by omega
  rw [hq0] at HW0
  rw [hq1] at HW1
  have HL := hid hL
  obtain ⟨aL, cL, rfl, hLl, _⟩ := hL
  obtain ⟨a, ha⟩ : ∃ a, 1 + q0 = a := ⟨_, rfl⟩
  obtain ⟨b, hb⟩ : ∃ b, 1 + q1 = b := ⟨_, rfl⟩
  have ea : (1 : Int) + (q0 : Int) = (a : Int) := by omega
  have eb : (1 : Int) + (q1 : Int) = (b : Int) := by omega
  have ha2 : a ≤ 40 := by omega
  have hb2 : b ≤ 40 := by omega
  have HN1 := hid (nnew_o (w := w) w (a := a) (b := b) (by omega) (by omega) (Nat.le_refl _))
  have HO1 := hid (fun (W : World) A v0 l0 v1 l1 v2 l2 S (h : N6 w W A (np0 a b) v0 l0 v1 l1 v2 l2 S) => h.open 7)
  rw [cs_new.1] at HO1
  have HC0 := hid (cs_new (a := a) (b := b)).2
  generalize openS (np0 a b) 7 = s0 at *
  clear ha hb hq0 hq1
  go_enter Try.func7, Try.ntmps7
  go_wp2_with fail
  refine HW0.out.mono ?_
  rintro e w1 ⟨rfl, h9⟩
  obtain rfl : w = w1 := h9.symm
  clear h9
  go_wp2_with fail
  refine HW1.out.mono ?_
  rintro e w1 ⟨rfl, h9⟩
  obtain rfl : w = w1 := h9.symm
  clear h9
  go_wp2_with fail
  clear ea eb
  refine HN1.out.mono ?_
  rintro e w1 ⟨A, rfl, O, h1, _, h2⟩
  have H1 := hid (N6.start h1 h2)
  clear h1 h2 HN1
  go_wp2_with fail
  refine (HO1.out _ _ _ _ _ _ _ _ _ H1.out).mono ?_
  rintro e w2 ⟨rfl, h1⟩
  have H2 := hid h1
  clear h1 H1 HO1
  go_wp2_with fail
  obtain ⟨NN, hNN⟩ : ∃ NN : Nat, NN = min L.length 150 := ⟨_, rfl⟩
  have HNN := hid hNN
  clear hNN
  go_loopg [9, 10, 11, 12, 13, 14] NN (fun q s9 s10 s11 s12 s13 s14 wx => ∃ (i : Nat) (s : Np) (SE TO WR : List Nat) (a0 a1 a2 : Option Addr) (c0 c1 c2 br mo : Nat) (x : Cp), s14 = .int .i64 (i : Int) ∧ s9 = .slice a0 SE.length c0 ∧ s10 = .slice a1 TO.length c1 ∧ s11 = .slice a2 WR.length c2 ∧ s12 = .int .i64 (br : Int) ∧ s13 = .int .i64 (mo : Int) ∧ Hid (i + q = NN) ∧ Hid (N6 w wx A s (.slice a0 SE.length c0) SE (.slice a1 TO.length c1) TO (.slice a2 WR.length c2) WR (fun _ => False)) ∧ Hid (CS s a b SE TO WR br mo i x))
  case atStart => exact ⟨0, s0, [], [], [], none, none, none, 0, 0, 0, 0, 0, cp0, rfl, rfl, rfl, rfl, rfl, rfl, by show _ = _; omega, H2, HC0⟩
  case round =>
    obtain ⟨i, s, SE, TO, WR, a0, a1, a2, c0, c1, c2, br, mo, x, rfl, rfl, rfl, rfl, rfl, rfl, HG, HI, HC⟩ := hrel
    clear H2 HC0
    cases gk with
    | zero =>
      have hi9 : i = min L.length 150 := by have := HG.out; have := HNN.out; omega
      have HF := hid HI.out.fr
      by_cases hl : L.length ≤ 150
      · have t1 : ¬ (i : Int) < (L.length : Int) := by omega
        clear hi9
        go_wp2_with fail
        refine (head_any _).mono ?_
        rintro e wz ⟨rfl, h1⟩
        have HZ := hid (HF.out.trans h1)
        clear h1
        go_wp2_with fail
        go_ret
        exact ⟨rfl, HZ.out⟩
      · have t1 : (i : Int) < (L.length : Int) := by omega
        have t2 : ¬ (i : Int) < 150 := by omega
        clear hi9
        go_wp2_with fail
        refine (head_any _).mono ?_
        rintro e wz ⟨rfl, h1⟩
        have HZ := hid (HF.out.trans h1)
        clear h1
        go_wp2_with fail
        go_ret
        exact ⟨rfl, HZ.out⟩
    | succ q =>
      have hi9 : i < L.length ∧ i < 150 := by have := HG.out; have := HNN.out; omega
      have t1 : (i : Int) < (L.length : Int) := by omega
      have t2 : (i : Int) < 150 := by omega
      have tnn : (0 : Int) ≤ (i : Int) := by omega
      have hi15 : i < 150 := hi9.2
      obtain ⟨bL, oL, rfl, gx0, gx1, ⟨av, cv, gx2, gx3, gx4⟩, gx5, glL⟩ := HL.out.at hi9.1
      have HB := hid gx4
      obtain ⟨st, hst⟩ : ∃ st, L.getD i sp0 = st := ⟨_, rfl⟩
      rw [hst] at gx0 gx1 gx2 gx3 gx5 HB
      obtain ⟨k, c, z, mx⟩ := st
      dsimp only at gx0 gx1 gx2 gx3 gx5 HB
      have hr := (fr_rules HI.out.fr).1 bL
      have hx0 := (hr _ glL).trans gx0
      have hx1 := (hr _ glL).trans gx1
      have hx2 := (hr _ glL).trans gx2
      have hx3 := (hr _ glL).trans gx5
      have hlL : bL < wr.heap.size := Nat.lt_of_lt_of_le glL HI.out.fr.size
      have hzc : z.length ≤ cv := gx3
      clear gx0 gx1 gx2 gx3 gx4 gx5 glL hr hst hi9
      have hsl := HC.out.sl
      have hwl := HC.out.wl
      have hml := HC.out.ml
      have hse : SE.length ≤ 15000 := by omega
      have hwr2 : WR.length ≤ 6000 := by omega
      have hmo : mo ≤ 12000 := by omega
      have hto : br ≤ SE.length ∧ TO.length ≤ br := by
        have h1 := HC.out.seq
        have h2 := HC.out.brq
        have h3 := congrArg List.length h1
        simp only [List.length_append] at h3
        omega
      obtain ⟨hto1, hto2⟩ := hto
      clear hsl hwl hml
      have HBX : Hid (Box (wr.alloc (.cells #[.int .i64 k, .int .i64 c, .slice av z.length cv, .int .i64 mx] 35)) wr.heap.size k c (.slice av z.length cv) mx) := heap_last _ _ _ rfl
      have HIB := hid (HI.out.box (N := wr.heap.size) (alloc_fr wr (.cells #[.int .i64 k, .int .i64 c, .slice av z.length cv, .int .i64 mx] 35) (fun _ => False)) (Nat.le_refl _) (by simp))
      clear HI
      go_upto_region 14 with fail
      go_cut [15] from 67 to 70 (fun s15 wx => s15 = .pointer (some ⟨wr.heap.size, 0, none⟩) ∧ wx = wr.alloc (.cells #[.int .i64 k, .int .i64 c, .slice av z.length cv, .int .i64 mx] 35))
      case first =>
        go_wp2_with fail
        go_meet
        exact ⟨rfl, rfl⟩
      case rest =>
        obtain ⟨rfl, rfl⟩ := hcut
        go_step
        go_step
        refine wp_cut (fun a' wx => ∃ u : Nat → Value, (∃ (s' : Np) (SE TO WR : List Nat) (a0 a1 a2 : Option Addr) (c0 c1 c2 br mo : Nat) (y : Cp), u 9 = .slice a0 SE.length c0 ∧ u 10 = .slice a1 TO.length c1 ∧ u 11 = .slice a2 WR.length c2 ∧ u 12 = .int .i64 (br : Int) ∧ u 13 = .int .i64 (mo : Int) ∧ Hid (N6 w wx A s' (.slice a0 SE.length c0) SE (.slice a1 TO.length c1) TO (.slice a2 WR.length c2) WR (fun k => k = wr.heap.size)) ∧ Hid (CS s' a b SE TO WR br mo (i + 1) y)) ∧ a' = ⟨#[Value.int IntKind.i64 ↑a, Value.int IntKind.i64 ↑b, Value.slice (some { block := bL, off := oL }) L.length cL, undef, undef, undef, u 6, Value.pointer (some { block := A, off := 0 }), Value.int IntKind.i64 0, u 9, u 10, u 11, u 12, u 13, Value.int IntKind.i64 ↑i, Value.pointer (some { block := wr.heap.size, off := 0 }), u 16, u 17, u 18, u 19, u 20, u 21, u 22, u 23, u 24, u 25, u 26, u 27, u 28, u 29, u30, u31, u32, u33, Value.int IntKind.i64 n0, Value.int IntKind.i64 ↑q0, Value.int IntKind.i64 ↑a, Value.int IntKind.i64 n1, Value.int IntKind.i64 ↑q1, Value.int IntKind.i64 ↑b, Value.tuple #[Value.pointer (some { block := A, off := 0 }), Value.int IntKind.i64 0], Value.int IntKind.i64 ↑a, Value.int IntKind.i64 ↑b, Value.tuple #[Value.pointer (some { block := A, off := 0 }), Value.int IntKind.i64 0], Value.pointer (some { block := A, off := 0 }), Value.int IntKind.i64 0, Value.int IntKind.i64 0, Value.bool false, Value.bool false, Value.pointer (some { block := A, off := 0 }), Value.bool false, Value.bool false, Value.bool false, Value.pointer (some { block := A, off := 0 }), Value.int IntKind.i64 0, Value.bool false, Value.bool false, Value.int IntKind.i64 ↑i, Value.slice (some { block := bL, off := oL }) L.length cL, Value.int IntKind.i64 ↑L.length, Value.bool true, Value.bool true, Value.int IntKind.i64 ↑i, Value.bool true, Value.bool true, u65, u66, u67, u68, u69, u70, u 71, u 72, u 73, u 74, u 75, u 76, u 77, u 78, u 79, u 80, u 81, u 82, u 83, u 84, u 85, u 86, u 87, u 88, u 89, u 90, u 91, u 92, u 93, u 94, u 95, u 96, u 97, u 98, u 99, u 100, u 101, u 102, u 103, u 104, u 105, u 106, u 107, u 108, u 109, u 110, u 111, u 112, u 113, u 114, u 115, u 116, u 117, u 118, u 119, u 120, u 121, u 122, u 123, u 124, u 125, u 126, u 127, u 128, u 129, u 130, u 131, u 132, u 133, u 134, u 135, u 136, u 137, u 138, u 139, u 140, u 141, u 142, u 143, u 144, u 145, u 146, u 147, u 148, u 149, u 150, u 151, u 152, u 153, u 154, u 155, u 156, u 157, u 158, u 159, u 160, u 161, u 162, u 163, u 164, u 165, u 166, u 167, u 168, u 169, u 170, u 171, u 172, u 173, u 174, u 175, u 176, u 177, u 178, u 179, u 180, u 181, u 182, u 183, u 184, u 185, u 186, u 187, u 188, u 189, u 190, u 191, u 192, u 193, u 194, u 195, u 196, u 197, u 198, u 199, u 200, u 201, u 202, u 203, u 204, u 205, u 206, u 207, u 208, u 209, u 210, u 211, u 212, u 213, u 214, u 215, u 216, u 217, u 218, u 219, u 220, u 221, u 222, u 223, u 224, u 225, u 226, u 227, u 228, u 229, u 230, u 231, u 232, u 233, u 234, u 235, u 236, u 237, u 238, u 239, u 240, u 241, u 242, u 243, u 244, u 245, u 246, u 247, u 248, u 249, u 250, u 251, u 252, u 253, u 254, u 255, u 256, u 257, u 258, u 259, u 260, u 261, u 262, u 263, u 264, u 265, u 266, u 267, u 268, u 269, u 270, u 271, u 272, u 273, u 274, u 275, u 276, u 277, u 278, u 279, u 280, u 281, u 282, u 283, u 284, u 285, u 286, u 287, u 288, u 289, u 290, u 291, u 292, u 293, u 294, u 295, u 296, u 297, u 298, u 299, u300, u301, u302, u303, u304, u305, u306, u307, u308, u309, u310, u311, u312, u313, u314, u315, u316, u317, u318, u319, u320, u321, u322, u323, u324, u325, u326, u327, u328, u329, u330, u331, undef], []⟩) ?rest9 ?first9
        case first9 =>
          intro J9 K9 hJ hK
          by_cases h2 : k = 2
          · as_aux_lemma =>
              subst h2
              by_cases hz100 : z.length ≤ 100
              · have t3 : ¬ (100 : Int) < (z.length : Int) := by omega
                obtain ⟨e0, y, hy⟩ := HC.out.send (by omega) hz100
                have HSE := hid (HIB.out.send 7 HB.out)
                rw [e0] at HSE
                have HC2 := hid hy
                clear e0 hy HC
                generalize sendS s 7 z = s' at *
                go_wp2_with fail
                refine HSE.out.mono ?_
                rintro e w5 ⟨rfl, h1, h2⟩
                have H5 := hid h1
                have HB5 := hid (HBX.out.keep (h2 _ rfl))
                clear h1 h2 HSE HIB HBX
                obtain ⟨y0, y2, y3, yl⟩ := HB5.out.cells
                go_wp2_with (at_builtin; refine wpl_rw _ rfl (.tmp 93) (.tmp 95) 33 rfl w.heap.size 5 i0 Try.underlying33 hi hz0 hz1 hz2 _ SE (by rfl) H5.out.r0 _ z (by rfl) (by obtain ⟨_, _, _, _, _, h, _⟩ := HB.out.lo H5.out.fr; exact h) (by omega) H5.out.fr.size (SE.length + z.length) rfl ?_)
                intro a3 c3 w6 h31 h32 h33
                have H6 := hid (H5.out.grow h31.out h32.out h33.out).1
                clear h31 h32 h33 H5 HB5 y0 y2 y3 yl
                obtain ⟨SE2, hSE2⟩ : ∃ l, SE ++ z = l := ⟨_, rfl⟩
                rw [hSE2] at H6 HC2
                have hln : SE.length + z.length = SE2.length := by rw [← hSE2, List.length_append]
                rw [hln] at H6 ⊢
                have hse2 : SE2.length ≤ 16000 := by omega
                clear hSE2 hln
                go_wp2_with fail
                refine Met.intro (hJ _ _ ?_)
                refine ex_frame ?_ ?_
                · exact ⟨s', SE2, TO, WR, a3, a1, a2, c3, c1, c2, br, mo, y, rfl, rfl, rfl, by first | rfl | (change Value.int _ _ = _; go_num), by first | rfl | (change Value.int _ _ = _; go_num), H6, HC2⟩
                · rfl
              · have t3 : (100 : Int) < (z.length : Int) := by omega
                go_wp2_with fail
                refine (head_any _).mono ?_
                rintro e wz ⟨rfl, h1⟩
                have HZ := hid (HIB.out.fr.trans h1)
                clear h1
                go_wp2_with fail
                go_ret
                exact ⟨rfl, HZ.out⟩
          by_cases h3 : k = 3
          · subst h3
            obtain ⟨e0, kk, y, e1, f1, f2, f3, f4, hy⟩ := HC.out.bring mx ha2
            have HBR := hid (HIB.out.bring (HC.out.hm (by omega)) 7 mx)
            rw [e0, e1] at HBR
            have HC2 := hid hy
            have g1 : ¬ (kk : Int) < 0 := by omega
            have g2 : ¬ (SE.length : Int) - (br : Int) < (kk : Int) := by omega
            have g3 : ¬ (a : Int) + (TO.length : Int) < (br : Int) + (kk : Int) := by omega
            have hkk : kk ≤ 20000 := by omega
            have hbrk : br + kk ≤ 40000 := by omega
            have F4 := hid f4
            clear e0 e1 hy HC f2 f3 f4
            generalize bringS s 7 mx = s' at *
            by_cases hkm : (kk : Int) < mx
            · have hm0 : (0 : Int) < mx := by omega
              have g4 : ¬ mx < (kk : Int) := by omega
              by_cases hks : (br : Int) + (kk : Int) < (SE.length : Int)
              · have g5 : ¬ (br : Int) + (kk : Int) - (TO.length : Int) < (a : Int) := by
                  have := F4.out hkm (by omega)
                  omega
                as_aux_lemma =>
                  go_wp2_with fail
                  refine HBR.out.mono ?_
                  rintro e w5 ⟨rfl, h1, h2⟩
                  have H5 := hid h1
                  have HB5 := hid (HBX.out.keep (h2 _ rfl))
                  clear h1 h2 HBR HIB HBX
                  obtain ⟨y0, y2, y3, yl⟩ := HB5.out.cells
                  go_wp2_with fail
                  clear y0 y2 y3 yl
                  refine Met.intro (hJ _ _ ?_)
                  refine ex_frame ?_ ?_
                  · exact ⟨s', SE, TO, WR, a0, a1, a2, c0, c1, c2, br + kk, mo + kk, y, rfl, rfl, rfl, by first | rfl | (change Value.int _ _ = _; go_num), by first | rfl | (change Value.int _ _ = _; go_num), H5, HC2⟩
                  · rfl
              · skip
                as_aux_lemma =>
                  go_wp2_with fail
                  refine HBR.out.mono ?_
                  rintro e w5 ⟨rfl, h1, h2⟩
                  have H5 := hid h1
                  have HB5 := hid (HBX.out.keep (h2 _ rfl))
                  clear h1 h2 HBR HIB HBX
                  obtain ⟨y0, y2, y3, yl⟩ := HB5.out.cells
                  go_wp2_with fail
                  clear y0 y2 y3 yl
                  refine Met.intro (hJ _ _ ?_)
                  refine ex_frame ?_ ?_
                  · exact ⟨s', SE, TO, WR, a0, a1, a2, c0, c1, c2, br + kk, mo + kk, y, rfl, rfl, rfl, by first | rfl | (change Value.int _ _ = _; go_num), by first | rfl | (change Value.int _ _ = _; go_num), H5, HC2⟩
                  · rfl
            · by_cases hm0 : (0 : Int) < mx
              · have g4 : ¬ mx < (kk : Int) := by omega
                as_aux_lemma =>
                  go_wp2_with fail
                  refine HBR.out.mono ?_
                  rintro e w5 ⟨rfl, h1, h2⟩
                  have H5 := hid h1
                  have HB5 := hid (HBX.out.keep (h2 _ rfl))
                  clear h1 h2 HBR HIB HBX
                  obtain ⟨y0, y2, y3, yl⟩ := HB5.out.cells
                  go_wp2_with fail
                  clear y0 y2 y3 yl
                  refine Met.intro (hJ _ _ ?_)
                  refine ex_frame ?_ ?_
                  · exact ⟨s', SE, TO, WR, a0, a1, a2, c0, c1, c2, br + kk, mo + kk, y, rfl, rfl, rfl, by first | rfl | (change Value.int _ _ = _; go_num), by first | rfl | (change Value.int _ _ = _; go_num), H5, HC2⟩
                  · rfl
              · have g4 : ¬ (0 : Int) < (kk : Int) := by omega
                as_aux_lemma =>
                  go_wp2_with fail
                  refine HBR.out.mono ?_
                  rintro e w5 ⟨rfl, h1, h2⟩
                  have H5 := hid h1
                  have HB5 := hid (HBX.out.keep (h2 _ rfl))
                  clear h1 h2 HBR HIB HBX
                  obtain ⟨y0, y2, y3, yl⟩ := HB5.out.cells
                  go_wp2_with fail
                  clear y0 y2 y3 yl
                  refine Met.intro (hJ _ _ ?_)
                  refine ex_frame ?_ ?_
                  · exact ⟨s', SE, TO, WR, a0, a1, a2, c0, c1, c2, br + kk, mo + kk, y, rfl, rfl, rfl, by first | rfl | (change Value.int _ _ = _; go_num), by first | rfl | (change Value.int _ _ = _; go_num), H5, HC2⟩
                  · rfl
          by_cases h4 : k = 4
          · as_aux_lemma =>
              subst h4
              obtain ⟨e0, e1, f1, f2, f3, y, hy⟩ := HC.out.take
              have HTK := hid (HIB.out.take 7)
              rw [e0, e1] at HTK
              have HC2 := hid hy
              have HF2 := hid f2
              obtain ⟨TO2, hTO2⟩ : ∃ l, TO ++ x.i = l := ⟨_, rfl⟩
              rw [hTO2] at f1 f3 HF2 HC2
              have hil : TO.length + x.i.length = TO2.length := by rw [← hTO2, List.length_append]
              have HTO := hid hTO2
              subst f1
              have HF3 := hid f3
              clear e0 e1 hy HC f2 hTO2
              generalize x.i = xi at *
              generalize takeS s 7 = s' at *
              go_wp2_with fail
              refine HTK.out.mono ?_
              rintro e w5 ⟨v, rfl, h0, h1, _⟩
              obtain ⟨av4, cv4, hv4, _, _⟩ := h0.shape
              subst hv4
              have HV := hid h0
              have H5 := hid h1
              clear h0 h1 HTK HIB HBX
              go_wp2_with (at_builtin; refine wpl_rw _ rfl (.tmp 172) (.tmp 173) 33 rfl w.heap.size 5 i0 Try.underlying33 hi hz0 hz1 hz2 _ TO (by rfl) H5.out.rot.r0 _ xi (by rfl) (bs_all HV.out) (by omega) H5.out.fr.size TO2.length hil ?_)
              intro a3 c3 w6 h31 h32 h33
              have h31' := h31.out
              rw [HTO.out] at h31'
              have H6 := hid (H5.out.rot.grow h31' h32.out h33.out).1.rot.rot
              clear h31 h31' h32 h33 H5 HV
              have hc1 := fun n => run_str8 Try.underlying33 Try.underlying5 Try.underlying9 (bs_all (H6.out.rot.r0.fr ((Fr.refl w6 (fun _ => False)).drewN n) (fun _ _ h => h)))
              have hc10 := run_str8 Try.underlying33 Try.underlying5 Try.underlying9 (bs_all H6.out.rot.r0)
              have hc2 := fun n => run_str8 Try.underlying33 Try.underlying5 Try.underlying9 (bs_front (H6.out.r0.fr ((Fr.refl w6 (fun _ => False)).drewN n) (fun _ _ h => h)) TO2.length HF3.out)
              have hc20 := run_str8 Try.underlying33 Try.underlying5 Try.underlying9 (bs_front H6.out.r0 TO2.length HF3.out)
              rw [← HF2.out] at hc20
              simp only [← HF2.out] at hc2
              have hcc : (TO2.length : Int) ≤ (c0 : Int) := by
                obtain ⟨_, _, hs0, hcs0, _⟩ := H6.out.r0.shape
                simp only [Value.slice.injEq] at hs0
                have h1 := hs0.2.2
                have h2 := HF3.out
                omega
              have hcn : (0 : Int) ≤ (TO2.length : Int) := by omega
              generalize str8 TO2 = SZ at *
              go_wp2_with fail
              go_quiet (fail)
              clear hc1 hc10 hc2 hc20
              have H7 := hid (H6.out.still ((Fr.refl w6 (fun _ => False)).drewN nq))
              generalize w6.drewN nq = w7 at *
              clear H6
              go_wp2_with fail
              refine Met.intro (hJ _ _ ?_)
              refine ex_frame ?_ ?_
              · exact ⟨s', SE, TO2, WR, a0, a3, a2, c0, c3, c2, TO2.length, mo, y, rfl, rfl, rfl, by first | rfl | (change Value.int _ _ = _; go_num), by first | rfl | (change Value.int _ _ = _; go_num), H7, HC2⟩
              · rfl
          by_cases h5 : k = 5
          · subst h5
            obtain ⟨e0, kk, y, e1, f1, f2, f3, hy⟩ := HC.out.write z hb2
            obtain ⟨p1, _, _, p4, _⟩ := HC.out.ask
            have HH1 := hid (HIB.out.heard (HC.out.hm (by omega)) 7)
            rw [p1] at HH1
            have HWR := hid (fun W (h : N6 w W A s (.slice a0 SE.length c0) SE (.slice a1 TO.length c1) TO (.slice a2 WR.length c2) WR (fun k => k = wr.heap.size)) => h.write 7 HB.out)
            rw [e0, e1] at HWR
            have HC2 := hid hy
            have HKZ := hid f2
            have hol := HC.out.ol
            have hxo : WR.length = x.h.length + x.o.length := by rw [HC.out.wrq]; simp
            have hkc : (kk : Int) ≤ (cv : Int) := by omega
            have hk0 : (0 : Int) ≤ (kk : Int) := by omega
            have g1 : ¬ (kk : Int) < 0 := by omega
            obtain ⟨D, hD⟩ : ∃ D : Nat, (b : Int) - ((WR.length : Int) - (x.h.length : Int)) = (D : Int) := ⟨b - x.o.length, by omega⟩
            have hhl : x.h.length ≤ WR.length := by omega
            rw [hD] at f1
            clear e0 e1 hy HC p1 p4 f2 hol hxo
            generalize writeS s 7 z = s' at *
            generalize heardN s 7 = hbn at *
            generalize x.h = xh at *
            obtain ⟨oo, hoo⟩ : ∃ oo : Nat, (WR.length : Int) - (xh.length : Int) = (oo : Int) := ⟨WR.length - xh.length, by omega⟩
            have hoo2 : (b : Int) - (oo : Int) = (D : Int) := by omega
            clear hD
            by_cases hzD : (z.length : Int) ≤ (D : Int)
            · obtain rfl : kk = z.length := by omega
              clear f1
              as_aux_lemma =>
                go_wp2_with fail
                refine HH1.out.mono ?_
                rintro e w4 ⟨uh, rfl, r1, h1, h2⟩
                obtain ⟨ah, ch, hh, _, _⟩ := r1.shape
                subst hh
                have H4 := hid h1
                have HB4 := hid (HBX.out.fr h2)
                clear r1 h1 h2 HH1 HIB HBX
                obtain ⟨y0, y2, y3, yl⟩ := HB4.out.cells
                go_wp2_with fail
                refine (HWR.out _ H4.out).mono ?_
                rintro e w5 ⟨rfl, h1, h2⟩
                have H5 := hid h1
                have HB5 := hid (HB4.out.keep (h2 _ rfl))
                clear h1 h2 HWR H4 HB4 y0 y2 y3 yl
                obtain ⟨y0, y2, y3, yl⟩ := HB5.out.cells
                go_wp2_with (at_builtin; refine wpl_rw _ rfl (.tmp 228) (.tmp 232) 33 rfl w.heap.size 5 i0 Try.underlying33 hi hz0 hz1 hz2 _ WR (by rfl) H5.out.rot.rot.r0 _ (z.take z.length) (by rfl) (by obtain ⟨_, _, _, _, _, h, _⟩ := HB.out.lo H5.out.fr; exact bs_take h z.length HKZ.out) (by rw [List.length_take]; omega) H5.out.fr.size (WR.length + z.length) (by rw [List.length_take]; have := HKZ.out; omega) ?_)
                intro a3 c3 w6 h31 h32 h33
                have H6 := hid (H5.out.rot.rot.grow h31.out h32.out h33.out).1.rot
                clear h31 h32 h33 H5 HB5 y0 y2 y3 yl
                obtain ⟨WR2, hWR2⟩ : ∃ l, WR ++ z = l := ⟨_, rfl⟩
                rw [List.take_length] at HC2
                rw [hWR2] at H6 HC2
                have hln : WR.length + z.length = WR2.length := by rw [← hWR2, List.length_append]
                rw [hln] at H6 ⊢
                have hwr3 : WR2.length ≤ 7000 := by omega
                clear hWR2 hln
                go_wp2_with fail
                refine Met.intro (hJ _ _ ?_)
                refine ex_frame ?_ ?_
                · exact ⟨s', SE, TO, WR2, a0, a1, a3, c0, c1, c3, br, mo, y, rfl, rfl, rfl, by first | rfl | (change Value.int _ _ = _; go_num), by first | rfl | (change Value.int _ _ = _; go_num), H6, HC2⟩
                · rfl
            · obtain rfl : kk = D := by omega
              clear f1
              as_aux_lemma =>
                go_wp2_with fail
                refine HH1.out.mono ?_
                rintro e w4 ⟨uh, rfl, r1, h1, h2⟩
                obtain ⟨ah, ch, hh, _, _⟩ := r1.shape
                subst hh
                have H4 := hid h1
                have HB4 := hid (HBX.out.fr h2)
                clear r1 h1 h2 HH1 HIB HBX
                obtain ⟨y0, y2, y3, yl⟩ := HB4.out.cells
                go_wp2_with fail
                refine (HWR.out _ H4.out).mono ?_
                rintro e w5 ⟨rfl, h1, h2⟩
                have H5 := hid h1
                have HB5 := hid (HB4.out.keep (h2 _ rfl))
                clear h1 h2 HWR H4 HB4 y0 y2 y3 yl
                obtain ⟨y0, y2, y3, yl⟩ := HB5.out.cells
                go_wp2_with (at_builtin; refine wpl_rw _ rfl (.tmp 228) (.tmp 232) 33 rfl w.heap.size 5 i0 Try.underlying33 hi hz0 hz1 hz2 _ WR (by rfl) H5.out.rot.rot.r0 _ (z.take kk) (by rfl) (by obtain ⟨_, _, _, _, _, h, _⟩ := HB.out.lo H5.out.fr; exact bs_take h kk HKZ.out) (by rw [List.length_take]; omega) H5.out.fr.size (WR.length + kk) (by rw [List.length_take]; have := HKZ.out; omega) ?_)
                intro a3 c3 w6 h31 h32 h33
                have H6 := hid (H5.out.rot.rot.grow h31.out h32.out h33.out).1.rot
                clear h31 h32 h33 H5 HB5 y0 y2 y3 yl
                obtain ⟨WR2, hWR2⟩ : ∃ l, WR ++ z.take kk = l := ⟨_, rfl⟩
                rw [hWR2] at H6 HC2
                have hln : WR.length + kk = WR2.length := by rw [← hWR2, List.length_append, List.length_take]; have := HKZ.out; omega
                rw [hln] at H6 ⊢
                have hwr3 : WR2.length ≤ 7000 := by omega
                clear hWR2 hln
                go_wp2_with fail
                refine Met.intro (hJ _ _ ?_)
                refine ex_frame ?_ ?_
                · exact ⟨s', SE, TO, WR2, a0, a1, a3, c0, c1, c3, br, mo, y, rfl, rfl, rfl, by first | rfl | (change Value.int _ _ = _; go_num), by first | rfl | (change Value.int _ _ = _; go_num), H6, HC2⟩
                · rfl
          by_cases h6 : k = 6
          · subst h6
            obtain ⟨e0, kk, y, e1, f0, f1, f2, f3, f4, hy⟩ := HC.out.fetch mx hb2
            obtain ⟨p1, _, _, _, _⟩ := HC.out.ask
            obtain ⟨p2, p3, _, _, _⟩ := hy.ask
            have HH1 := hid (HIB.out.heard (HC.out.hm (by omega)) 7)
            rw [p1] at HH1
            have HFE := hid (fun W (h : N6 w W A s (.slice a0 SE.length c0) SE (.slice a1 TO.length c1) TO (.slice a2 WR.length c2) WR (fun k => k = wr.heap.size)) => h.fetch (HC.out.hm (by omega)) 7 mx)
            rw [e0, e1] at HFE
            have HH2 := hid (fun W (h : N6 w W A (fetchS s 7 mx) (.slice a0 SE.length c0) SE (.slice a1 TO.length c1) TO (.slice a2 WR.length c2) WR (fun k => k = wr.heap.size)) => h.heard (hy.hm (by omega)) 7)
            rw [p2, p3] at HH2
            have HC2 := hid hy
            have HYH := hid f4
            have HYL := hid f3
            have hxo : WR.length = x.h.length + x.o.length := by rw [HC.out.wrq]; simp
            have hhl : x.h.length ≤ WR.length := by omega
            clear e0 e1 hy HC p1 p2 p3 f4 hxo
            generalize fetchS s 7 mx = s' at *
            generalize heardN s 7 = hbn at *
            generalize x.h = xh at *
            obtain ⟨D, hD⟩ : ∃ D : Nat, (WR.length : Int) - (xh.length : Int) = (D : Int) := ⟨WR.length - xh.length, by omega⟩
            rw [hD] at f1
            have hD2 : D ≤ 6000 := by omega
            have f2' : (xh.length : Int) + (kk : Int) = (y.h.length : Int) := by omega
            have f3' : ¬ (WR.length : Int) < (y.h.length : Int) := by omega
            have hwD : IntKind.i64.wrap (D : Int) = (D : Int) := wrap_fit (by unfold fits; omega)
            have hwK : IntKind.i64.wrap (y.h.length : Int) = (y.h.length : Int) := wrap_fit (by unfold fits; omega)
            have hqL : (WR.length < y.h.length) = False := eq_false (by omega)
            have hqL2 : ((WR.length : Int) < (y.h.length : Int)) = False := eq_false (by omega)
            have hw0 : IntKind.i64.wrap (0 : Int) = 0 := wrap_fit (by unfold fits; omega)
            clear f2 f3 f3'
            by_cases hmD : mx ≤ (D : Int)
            · by_cases hm0 : (0 : Int) < mx
              · obtain rfl : mx = (kk : Int) := by omega
                clear f1
                have hq1 : ((D : Int) < (kk : Int)) = False := eq_false (by omega)
                have hq2 : (D < kk) = False := eq_false (by omega)
                have hq3 : 0 < kk := by omega
                as_aux_lemma =>
                  go_wp2_with fail
                  refine HH1.out.mono ?_
                  rintro e w4 ⟨uh, rfl, r1, h1, h2⟩
                  obtain ⟨ah, ch, hh, _, _⟩ := r1.shape
                  subst hh
                  have H4 := hid h1
                  have HB4 := hid (HBX.out.fr h2)
                  clear r1 h1 h2 HH1 HIB HBX
                  obtain ⟨y0, y2, y3, yl⟩ := HB4.out.cells
                  go_wp2_with fail
                  refine (HFE.out _ H4.out).mono ?_
                  rintro e w5 ⟨rfl, h1, h2⟩
                  have H5 := hid h1
                  have HB5 := hid (HB4.out.keep (h2 _ rfl))
                  clear h1 h2 HFE H4 HB4 y0 y2 y3 yl
                  go_wp2_with fail
                  refine (HH2.out _ H5.out).mono ?_
                  rintro e w6 ⟨ug, rfl, r1, h1, h2⟩
                  obtain ⟨ag6, cg6, hg6, _, _⟩ := r1.shape
                  subst hg6
                  have H6 := hid h1
                  have HB6 := hid (HB5.out.fr h2)
                  have hc1 := fun n => run_str8 Try.underlying33 Try.underlying5 Try.underlying9 (bs_all (r1.fr ((Fr.refl w6 (fun _ => False)).drewN n) (fun _ _ h => h)))
                  have hc10 := run_str8 Try.underlying33 Try.underlying5 Try.underlying9 (bs_all r1)
                  have hc11 := run_str8 Try.underlying33 Try.underlying5 Try.underlying9 (bs_all (r1.fr (Fr.refl w6 (fun _ => False)).drew (fun _ _ h => h)))
                  have hc2 := fun n => run_str8 Try.underlying33 Try.underlying5 Try.underlying9 (bs_front (H6.out.rot.rot.r0.fr ((Fr.refl w6 (fun _ => False)).drewN n) (fun _ _ h => h)) y.h.length HYL.out)
                  have hc20 := run_str8 Try.underlying33 Try.underlying5 Try.underlying9 (bs_front H6.out.rot.rot.r0 y.h.length HYL.out)
                  have hc21 := run_str8 Try.underlying33 Try.underlying5 Try.underlying9 (bs_front (H6.out.rot.rot.r0.fr (Fr.refl w6 (fun _ => False)).drew (fun _ _ h => h)) y.h.length HYL.out)
                  rw [← HYH.out] at hc20 hc21
                  simp only [← HYH.out] at hc2
                  have hcc : (y.h.length : Int) ≤ (c2 : Int) := by
                    obtain ⟨_, _, hs0, hcs0, _⟩ := H6.out.rot.rot.r0.shape
                    simp only [Value.slice.injEq] at hs0
                    have h1 := hs0.2.2
                    have h2 := HYL.out
                    omega
                  have hcn : (0 : Int) ≤ (y.h.length : Int) := by omega
                  obtain ⟨y0, y2, y3, yl⟩ := HB6.out.cells
                  clear r1 h1 h2 H5 HB5 HH2
                  generalize hyl9 : y.h.length = yh at *
                  generalize str8 y.h = SZ at *
                  go_wp2_with fail
                  go_quiet (fail)
                  clear hc1 hc10 hc2 hc20 hc11 hc21 y0 y2 y3 yl
                  have H7 := hid (H6.out.still ((Fr.refl w6 (fun _ => False)).drewN nq))
                  generalize w6.drewN nq = w7 at *
                  clear H6 HB6
                  subst hyl9
                  go_wp2_with fail
                  refine Met.intro (hJ _ _ ?_)
                  refine ex_frame ?_ ?_
                  · exact ⟨s', SE, TO, WR, a0, a1, a2, c0, c1, c2, br, mo + kk, y, rfl, rfl, rfl, by first | rfl | (change Value.int _ _ = _; go_num), by first | rfl | (change Value.int _ _ = _; go_num), H7, HC2⟩
                  · rfl
              · obtain rfl : kk = 0 := by omega
                clear f1
                have hq1 : ((D : Int) < mx) = False := eq_false (by omega)
                have hq2 : ((0 : Int) < mx) = False := eq_false (by omega)
                have hwX : IntKind.i64.wrap (xh.length : Int) = (y.h.length : Int) := by
                  have h1 : (xh.length : Int) = (y.h.length : Int) := by omega
                  rw [h1]
                  exact hwK
                clear f2'
                clear hm0 hmD
                as_aux_lemma =>
                  go_wp2_with fail
                  refine HH1.out.mono ?_
                  rintro e w4 ⟨uh, rfl, r1, h1, h2⟩
                  obtain ⟨ah, ch, hh, _, _⟩ := r1.shape
                  subst hh
                  have H4 := hid h1
                  have HB4 := hid (HBX.out.fr h2)
                  clear r1 h1 h2 HH1 HIB HBX
                  obtain ⟨y0, y2, y3, yl⟩ := HB4.out.cells
                  go_wp2_with fail
                  refine (HFE.out _ H4.out).mono ?_
                  rintro e w5 ⟨rfl, h1, h2⟩
                  have H5 := hid h1
                  have HB5 := hid (HB4.out.keep (h2 _ rfl))
                  clear h1 h2 HFE H4 HB4 y0 y2 y3 yl
                  go_wp2_with fail
                  refine (HH2.out _ H5.out).mono ?_
                  rintro e w6 ⟨ug, rfl, r1, h1, h2⟩
                  obtain ⟨ag6, cg6, hg6, _, _⟩ := r1.shape
                  subst hg6
                  have H6 := hid h1
                  have HB6 := hid (HB5.out.fr h2)
                  have hc1 := fun n => run_str8 Try.underlying33 Try.underlying5 Try.underlying9 (bs_all (r1.fr ((Fr.refl w6 (fun _ => False)).drewN n) (fun _ _ h => h)))
                  have hc10 := run_str8 Try.underlying33 Try.underlying5 Try.underlying9 (bs_all r1)
                  have hc11 := run_str8 Try.underlying33 Try.underlying5 Try.underlying9 (bs_all (r1.fr (Fr.refl w6 (fun _ => False)).drew (fun _ _ h => h)))
                  have hc2 := fun n => run_str8 Try.underlying33 Try.underlying5 Try.underlying9 (bs_front (H6.out.rot.rot.r0.fr ((Fr.refl w6 (fun _ => False)).drewN n) (fun _ _ h => h)) y.h.length HYL.out)
                  have hc20 := run_str8 Try.underlying33 Try.underlying5 Try.underlying9 (bs_front H6.out.rot.rot.r0 y.h.length HYL.out)
                  have hc21 := run_str8 Try.underlying33 Try.underlying5 Try.underlying9 (bs_front (H6.out.rot.rot.r0.fr (Fr.refl w6 (fun _ => False)).drew (fun _ _ h => h)) y.h.length HYL.out)
                  rw [← HYH.out] at hc20 hc21
                  simp only [← HYH.out] at hc2
                  have hcc : (y.h.length : Int) ≤ (c2 : Int) := by
                    obtain ⟨_, _, hs0, hcs0, _⟩ := H6.out.rot.rot.r0.shape
                    simp only [Value.slice.injEq] at hs0
                    have h1 := hs0.2.2
                    have h2 := HYL.out
                    omega
                  have hcn : (0 : Int) ≤ (y.h.length : Int) := by omega
                  obtain ⟨y0, y2, y3, yl⟩ := HB6.out.cells
                  clear r1 h1 h2 H5 HB5 HH2
                  generalize hyl9 : y.h.length = yh at *
                  generalize str8 y.h = SZ at *
                  go_wp2_with fail
                  go_quiet (fail)
                  clear hc1 hc10 hc2 hc20 hc11 hc21 y0 y2 y3 yl
                  have H7 := hid (H6.out.still ((Fr.refl w6 (fun _ => False)).drewN nq))
                  generalize w6.drewN nq = w7 at *
                  clear H6 HB6
                  subst hyl9
                  go_wp2_with fail
                  refine Met.intro (hJ _ _ ?_)
                  refine ex_frame ?_ ?_
                  · exact ⟨s', SE, TO, WR, a0, a1, a2, c0, c1, c2, br, mo + 0, y, rfl, rfl, rfl, by first | rfl | (change Value.int _ _ = _; go_num), by first | rfl | (change Value.int _ _ = _; go_num), H7, HC2⟩
                  · rfl
            · by_cases hm0 : 0 < D
              · obtain rfl : kk = D := by omega
                have hm1 : (0 : Int) < (kk : Int) := by omega
                have hq1 : (kk : Int) < mx := by omega
                clear f1
                as_aux_lemma =>
                  go_wp2_with fail
                  refine HH1.out.mono ?_
                  rintro e w4 ⟨uh, rfl, r1, h1, h2⟩
                  obtain ⟨ah, ch, hh, _, _⟩ := r1.shape
                  subst hh
                  have H4 := hid h1
                  have HB4 := hid (HBX.out.fr h2)
                  clear r1 h1 h2 HH1 HIB HBX
                  obtain ⟨y0, y2, y3, yl⟩ := HB4.out.cells
                  go_wp2_with fail
                  refine (HFE.out _ H4.out).mono ?_
                  rintro e w5 ⟨rfl, h1, h2⟩
                  have H5 := hid h1
                  have HB5 := hid (HB4.out.keep (h2 _ rfl))
                  clear h1 h2 HFE H4 HB4 y0 y2 y3 yl
                  go_wp2_with fail
                  refine (HH2.out _ H5.out).mono ?_
                  rintro e w6 ⟨ug, rfl, r1, h1, h2⟩
                  obtain ⟨ag6, cg6, hg6, _, _⟩ := r1.shape
                  subst hg6
                  have H6 := hid h1
                  have HB6 := hid (HB5.out.fr h2)
                  have hc1 := fun n => run_str8 Try.underlying33 Try.underlying5 Try.underlying9 (bs_all (r1.fr ((Fr.refl w6 (fun _ => False)).drewN n) (fun _ _ h => h)))
                  have hc10 := run_str8 Try.underlying33 Try.underlying5 Try.underlying9 (bs_all r1)
                  have hc11 := run_str8 Try.underlying33 Try.underlying5 Try.underlying9 (bs_all (r1.fr (Fr.refl w6 (fun _ => False)).drew (fun _ _ h => h)))
                  have hc2 := fun n => run_str8 Try.underlying33 Try.underlying5 Try.underlying9 (bs_front (H6.out.rot.rot.r0.fr ((Fr.refl w6 (fun _ => False)).drewN n) (fun _ _ h => h)) y.h.length HYL.out)
                  have hc20 := run_str8 Try.underlying33 Try.underlying5 Try.underlying9 (bs_front H6.out.rot.rot.r0 y.h.length HYL.out)
                  have hc21 := run_str8 Try.underlying33 Try.underlying5 Try.underlying9 (bs_front (H6.out.rot.rot.r0.fr (Fr.refl w6 (fun _ => False)).drew (fun _ _ h => h)) y.h.length HYL.out)
                  rw [← HYH.out] at hc20 hc21
                  simp only [← HYH.out] at hc2
                  have hcc : (y.h.length : Int) ≤ (c2 : Int) := by
                    obtain ⟨_, _, hs0, hcs0, _⟩ := H6.out.rot.rot.r0.shape
                    simp only [Value.slice.injEq] at hs0
                    have h1 := hs0.2.2
                    have h2 := HYL.out
                    omega
                  have hcn : (0 : Int) ≤ (y.h.length : Int) := by omega
                  obtain ⟨y0, y2, y3, yl⟩ := HB6.out.cells
                  clear r1 h1 h2 H5 HB5 HH2
                  generalize hyl9 : y.h.length = yh at *
                  generalize str8 y.h = SZ at *
                  go_wp2_with fail
                  go_quiet (fail)
                  clear hc1 hc10 hc2 hc20 hc11 hc21 y0 y2 y3 yl
                  have H7 := hid (H6.out.still ((Fr.refl w6 (fun _ => False)).drewN nq))
                  generalize w6.drewN nq = w7 at *
                  clear H6 HB6
                  subst hyl9
                  go_wp2_with fail
                  refine Met.intro (hJ _ _ ?_)
                  refine ex_frame ?_ ?_
                  · exact ⟨s', SE, TO, WR, a0, a1, a2, c0, c1, c2, br, mo + kk, y, rfl, rfl, rfl, by first | rfl | (change Value.int _ _ = _; go_num), by first | rfl | (change Value.int _ _ = _; go_num), H7, HC2⟩
                  · rfl
              · obtain rfl : D = 0 := by omega
                obtain rfl : kk = 0 := by omega
                have hq1 : (0 : Int) < mx := by omega
                clear f1
                have hwX : IntKind.i64.wrap (xh.length : Int) = (y.h.length : Int) := by
                  have h1 : (xh.length : Int) = (y.h.length : Int) := by omega
                  rw [h1]
                  exact hwK
                clear f2'
                as_aux_lemma =>
                  go_wp2_with fail
                  refine HH1.out.mono ?_
                  rintro e w4 ⟨uh, rfl, r1, h1, h2⟩
                  obtain ⟨ah, ch, hh, _, _⟩ := r1.shape
                  subst hh
                  have H4 := hid h1
                  have HB4 := hid (HBX.out.fr h2)
                  clear r1 h1 h2 HH1 HIB HBX
                  obtain ⟨y0, y2, y3, yl⟩ := HB4.out.cells
                  go_wp2_with fail
                  refine (HFE.out _ H4.out).mono ?_
                  rintro e w5 ⟨rfl, h1, h2⟩
                  have H5 := hid h1
                  have HB5 := hid (HB4.out.keep (h2 _ rfl))
                  clear h1 h2 HFE H4 HB4 y0 y2 y3 yl
                  go_wp2_with fail
                  refine (HH2.out _ H5.out).mono ?_
                  rintro e w6 ⟨ug, rfl, r1, h1, h2⟩
                  obtain ⟨ag6, cg6, hg6, _, _⟩ := r1.shape
                  subst hg6
                  have H6 := hid h1
                  have HB6 := hid (HB5.out.fr h2)
                  have hc1 := fun n => run_str8 Try.underlying33 Try.underlying5 Try.underlying9 (bs_all (r1.fr ((Fr.refl w6 (fun _ => False)).drewN n) (fun _ _ h => h)))
                  have hc10 := run_str8 Try.underlying33 Try.underlying5 Try.underlying9 (bs_all r1)
                  have hc11 := run_str8 Try.underlying33 Try.underlying5 Try.underlying9 (bs_all (r1.fr (Fr.refl w6 (fun _ => False)).drew (fun _ _ h => h)))
                  have hc2 := fun n => run_str8 Try.underlying33 Try.underlying5 Try.underlying9 (bs_front (H6.out.rot.rot.r0.fr ((Fr.refl w6 (fun _ => False)).drewN n) (fun _ _ h => h)) y.h.length HYL.out)
                  have hc20 := run_str8 Try.underlying33 Try.underlying5 Try.underlying9 (bs_front H6.out.rot.rot.r0 y.h.length HYL.out)
                  have hc21 := run_str8 Try.underlying33 Try.underlying5 Try.underlying9 (bs_front (H6.out.rot.rot.r0.fr (Fr.refl w6 (fun _ => False)).drew (fun _ _ h => h)) y.h.length HYL.out)
                  rw [← HYH.out] at hc20 hc21
                  simp only [← HYH.out] at hc2
                  have hcc : (y.h.length : Int) ≤ (c2 : Int) := by
                    obtain ⟨_, _, hs0, hcs0, _⟩ := H6.out.rot.rot.r0.shape
                    simp only [Value.slice.injEq] at hs0
                    have h1 := hs0.2.2
                    have h2 := HYL.out
                    omega
                  have hcn : (0 : Int) ≤ (y.h.length : Int) := by omega
                  obtain ⟨y0, y2, y3, yl⟩ := HB6.out.cells
                  clear r1 h1 h2 H5 HB5 HH2
                  generalize hyl9 : y.h.length = yh at *
                  generalize str8 y.h = SZ at *
                  go_wp2_with fail
                  go_quiet (fail)
                  clear hc1 hc10 hc2 hc20 hc11 hc21 y0 y2 y3 yl
                  have H7 := hid (H6.out.still ((Fr.refl w6 (fun _ => False)).drewN nq))
                  generalize w6.drewN nq = w7 at *
                  clear H6 HB6
                  subst hyl9
                  go_wp2_with fail
                  refine Met.intro (hJ _ _ ?_)
                  refine ex_frame ?_ ?_
                  · exact ⟨s', SE, TO, WR, a0, a1, a2, c0, c1, c2, br, mo + 0, y, rfl, rfl, rfl, by first | rfl | (change Value.int _ _ = _; go_num), by first | rfl | (change Value.int _ _ = _; go_num), H7, HC2⟩
                  · rfl
          as_aux_lemma =>
            have HC2 := hid HC.out.next
            go_wp2_with fail
            refine Met.intro (hJ _ _ ?_)
            refine ex_frame ?_ ?_
            · exact ⟨s, SE, TO, WR, a0, a1, a2, c0, c1, c2, br, mo, x, rfl, rfl, rfl, by first | rfl | (change Value.int _ _ = _; go_num), by first | rfl | (change Value.int _ _ = _; go_num), HIB, HC2⟩
            · rfl
        case rest9 =>
          clear HC HIB HBX
          rintro _ wc ⟨u, hcut, rfl⟩
          generalize u 9 = s9 at *
          generalize u 10 = s10 at *
          generalize u 11 = s11 at *
          generalize u 12 = s12 at *
          generalize u 13 = s13 at *
          obtain ⟨s', SE, TO, WR, a0, a1, a2, c0, c1, c2, br, mo, y, rfl, rfl, rfl, rfl, rfl, HR, HC2⟩ := hcut
          have hse3 : SE.length ≤ 16000 := by have := HC2.out.sl; omega
          have hwr3 : WR.length ≤ 7000 := by have := HC2.out.wl; omega
          have hmo3 : mo ≤ 13000 := by have := HC2.out.ml; omega
          have hto3 : TO.length ≤ SE.length := by
            have h1 := congrArg List.length HC2.out.seq
            simp only [List.length_append] at h1
            omega
          have hyh3 : y.h.length ≤ WR.length := by
            have h1 := congrArg List.length HC2.out.wrq
            simp only [List.length_append] at h1
            omega
          as_aux_lemma =>
            obtain ⟨p1, p2, p3, p4, p5⟩ := HC2.out.ask
            have HUN := hid (HR.out.under 7)
            have HP := hid (And.intro p1 p5)
            have HM9 := hid (HC2.out.hm (by omega))
            have e1 : (SE.length : Int) - (TO.length : Int) = ((undI s' 7 : Nat) : Int) := by omega
            have e2 : (WR.length : Int) - (y.h.length : Int) = ((undO s' 7 : Nat) : Int) := by omega
            clear p1 p2 p3 p4 p5
            generalize undI s' 7 = ui at *
            generalize undO s' 7 = uo at *
            go_wp2_with fail
            refine HUN.out.mono ?_
            rintro e wa ⟨rfl, h1, _⟩
            have HA1 := hid h1
            clear h1
            go_wp2_with fail
            have HHE := hid (HA1.out.heard HM9.out 7)
            rw [HP.out.1] at HHE
            generalize heardN s' 7 = hb9 at *
            refine HHE.out.mono ?_
            rintro e wb ⟨ug, rfl, r1, h1, _⟩
            obtain ⟨ag, cg, hg, _, _⟩ := r1.shape
            subst hg
            have HA2 := hid h1
            clear h1 r1 HA1 HHE
            go_wp2_with fail
            have HMV := hid HA2.out.moved
            rw [HP.out.2] at HMV
            refine HMV.out.mono ?_
            rintro e wc ⟨rfl, h9⟩
            obtain rfl : wb = wc := h9.symm
            clear h9 HMV
            have HA3 := hid HA2.out.forget
            go_wp2_with fail
            go_roundg q
            case measure => omega
            case rel => exact ⟨i + 1, s', SE, TO, WR, a0, a1, a2, c0, c1, c2, br, mo, y, by go_num, rfl, rfl, rfl, by first | rfl | go_num, by first | rfl | go_num, by have := HG.out; show _ = _; omega, HA3, HC2⟩
end Go.Proofs.Ytljkbnjdciljfaa
