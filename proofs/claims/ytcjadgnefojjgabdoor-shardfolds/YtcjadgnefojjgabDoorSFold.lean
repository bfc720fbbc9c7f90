/- ShardFolds: the walk. -/
import Derived.Test.YtcjadgnefojjgabDoorSFold2
namespace Go.Proofs.YtcjadgnefojjgabDoor.S
open Go.RowKit G

theorem AgB.drew {W : World} {N : Nat} {a : A4} (h : G.AgAt W N a) : G.AgAt W.drew N a := h
theorem AgB.new (W : World) (a : A4) (N : Nat) (hN : W.heap.size = N) : G.AgAt (W.alloc (.cells #[.int .i64 a.c, .int .i64 a.s, .int .i64 a.m, .int .i64 a.x] 34)) N a := heap_last _ _ _ hN
theorem AgB.new0 (W : World) (N : Nat) (hN : W.heap.size = N) : G.AgAt (W.alloc (.cells #[.int .i64 0, .int .i64 0, .int .i64 0, .int .i64 0] 34)) N a0 := heap_last _ _ _ hN
theorem AgB.cells {W : World} {N : Nat} {a : A4} (h : G.AgAt W N a) : (W.cell? ⟨N, 0, none⟩ = some (.int .i64 a.c) ∧ W.cell? ⟨N, 1, none⟩ = some (.int .i64 a.s) ∧ W.cell? ⟨N, 2, none⟩ = some (.int .i64 a.m) ∧ W.cell? ⟨N, 3, none⟩ = some (.int .i64 a.x)) ∧ ∀ o, W.frozen? ⟨N, o, none⟩ = false := ⟨cells4 h, free4 h⟩
theorem AgB.set {W : World} {N : Nat} {a : A4} (h : G.AgAt W N a) (b : A4) : G.AgAt ((((W.setCell ⟨N, 0, none⟩ (.int .i64 b.c)).setCell ⟨N, 1, none⟩ (.int .i64 b.s)).setCell ⟨N, 2, none⟩ (.int .i64 b.m)).setCell ⟨N, 3, none⟩ (.int .i64 b.x)) N b := by
  have h1 := heap_setCell_same W N 0 _ _ (.int .i64 b.c) h
  have h2 := heap_setCell_same _ N 1 _ _ (.int .i64 b.s) h1
  have h3 := heap_setCell_same _ N 2 _ _ (.int .i64 b.m) h2
  exact heap_setCell_same _ N 3 _ _ (.int .i64 b.x) h3

set_option maxHeartbeats 16000000 in
set_option maxRecDepth 100000 in
theorem folds_walk (c : Cl) (va vb : Value) (xs ys : List Int) (w : World) (hg : Gl w) (hk : c.k.size ≤ 9223372036854775807) (hx : Is w va xs) (hy : Is w vb ys) : Calls Tryd.prog 3 #[.agg #[.int .i64 c.v, .string c.k, .int .i64 c.s], va, vb] w fun r w' => r = .returned (.bool true) ∧ Fr w w' (fun _ => False) := by
  have hbn := sh_nil
  have HGl := hid hg
  have HHd := hid (fun (W : World) (hf : Fr w W (fun _ => False)) => head_any W (hg.fr hf (fun h => h)))
  have HN := hid (fun (W : World) (hf : Fr w W (fun _ => False)) => hnew' 200 (by decide) (by decide) hg hf)
  have HFe := hid (fun W => few_any c W hk)
  have HD := hid (few_may c)
  have HDk := hid (fewK_size c.k)
  obtain ⟨aox, capx, rfl, hxl, hxf, hxc⟩ := hx
  obtain ⟨aoy, capy, rfl, hyl, hyf, hyc⟩ := hy
  have HXc := hid hxc
  have HYc := hid hyc
  have HXf := hid hxf
  generalize hd : fewC c = d at *
  have HDs : Hid (d.k.size ≤ 9223372036854775807) := by
    show _ ≤ _
    rw [← hd]
    show (fewK c.k).size ≤ _
    rw [HDk.out]
    decide
  obtain ⟨cv, ck, cs⟩ := c
  obtain ⟨dv, dk, ds⟩ := d
  dsimp only at *
  clear hg hk hxc hyc hxf hyf hd
  go_enter Tryd.func3, Tryd.ntmps3
  go_wp2_with fail
  refine (HN.out _ (alloc_fr _ _ _)).mono ?_
  rintro r w1 ⟨S, rfl, h1, hf1⟩
  have H1 := hid (show Hd w w1 S 200 [] from h1)
  have HB1 := hid ((hf1.block w.heap.size (by simp) (fun h => h)).trans (heap_last _ _ _ rfl))
  obtain ⟨k0, k1, k2⟩ := cells3 HB1.out
  have hl1 := lt_of_block HB1.out
  clear h1 hf1 HN
  go_wp2_with fail
  refine (HFe.out _).mono ?_
  rintro r w2 ⟨rfl, hf2⟩
  have HB2 := hid ((hf2.block w.heap.size (lt_of_block HB1.out) (fun h => h)).trans HB1.out)
  have H2 := hid (H1.out.step hf2)
  obtain ⟨k0, k1, k2⟩ := cells3 HB2.out
  have hkf : ∀ o, w2.frozen? ⟨w.heap.size, o, none⟩ = false := fun o => by simp [World.frozen?, HB2.out]
  have hl2 := lt_of_block HB2.out
  clear hf2 HFe HB1 H1 hl1
  go_wp2_with fail
  have HB3 : Hid ((((w2.setCell ⟨w.heap.size, 0, none⟩ (.int .i64 dv)).setCell ⟨w.heap.size, 1, none⟩ (.string dk)).setCell ⟨w.heap.size, 2, none⟩ (.int .i64 ds)).heap[w.heap.size]? = some (.cells #[.int .i64 dv, .string dk, .int .i64 ds] 23 (0, 0))) := by
    have q1 := heap_setCell_same w2 w.heap.size 0 _ _ (.int .i64 dv) HB2.out
    have q2 := heap_setCell_same _ w.heap.size 1 _ _ (.string dk) q1
    exact heap_setCell_same _ w.heap.size 2 _ _ (.int .i64 ds) q2
  have H3 := hid (H2.out.beside (P := fun b => b = w.heap.size) ((((Fr.refl w2 (fun b => b = w.heap.size)).setCell (p := ⟨w.heap.size, 0, none⟩) (fun _ => rfl) (.int .i64 dv)).setCell (p := ⟨w.heap.size, 1, none⟩) (fun _ => rfl) (.string dk)).setCell (p := ⟨w.heap.size, 2, none⟩) (fun _ => rfl) (.int .i64 ds)) (fun b _ hb => by subst hb; exact ⟨Nat.le_refl _, 23, ⟨_, HB2.out⟩, by unfold okT; decide⟩))
  generalize ((w2.setCell ⟨w.heap.size, 0, none⟩ (.int .i64 dv)).setCell ⟨w.heap.size, 1, none⟩ (.string dk)).setCell ⟨w.heap.size, 2, none⟩ (.int .i64 ds) = w3 at *
  clear HB2 H2 k0 k1 k2 hkf hl2
  go_loopg [9, 10, 11] (min xs.length 60) (fun gk s9 s10 s11 wx => ∃ (i ep : Nat) (F : List A4), s9 = .int .i64 (ep : Int) ∧ s11 = .int .i64 (i : Int) ∧ i + gk = min xs.length 60 ∧ Hid (FI i ep F) ∧ Hid (FO w wx s10 F) ∧ Hid (Hd w wx S 200 (Vof ⟨dv, dk, ds⟩ F)) ∧ Hid (wx.heap[w.heap.size]? = some (.cells #[.int .i64 dv, .string dk, .int .i64 ds] 23 (0, 0))))
  case atStart => exact ⟨0, 1, [], rfl, rfl, by omega, FI.zero, FO.nil _ _, H3, HB3⟩
  case round =>
    obtain ⟨i, ep, F, rfl, rfl, hgk, HFI, HFO, HH, HB⟩ := hrel
    obtain ⟨aof, capf, hsl⟩ := HFO.out.shape
    subst hsl
    have hep1 := HFI.out.pos
    have hep2 := HFI.out.top
    cases gk with
    | zero =>
      have hi60 : i ≤ 60 := by omega
      by_cases hlt : i < xs.length
      · have t1 : (i : Int) < (xs.length : Int) := by omega
        have t2 : ¬ (i : Int) < 60 := by omega
        clear hgk hlt
        have HH1 := hid (HH.out.step (alloc_fr wr (.cells #[.int .i64 0, .int .i64 0, .int .i64 0, .int .i64 0] 34) (fun _ => False)))
        have HFO1 := hid (HFO.out.fr (alloc_fr wr (.cells #[.int .i64 0, .int .i64 0, .int .i64 0, .int .i64 0] 34) (fun _ => False)) (fun _ _ h => h))
        have HB1 := hid ((Below.heap_alloc wr (.cells #[.int .i64 0, .int .i64 0, .int .i64 0, .int .i64 0] 34) _ (lt_of_block HB.out)).trans HB.out)
        have HZ1 := hid (AgB.new0 wr wr.heap.size rfl)
        have HNow : Hid (∀ k, (Value.slice aof F.length capf).ownBlock = some k → k ≠ wr.heap.size) := fun k hk e2 => by
          have := ((HFO.out.kd k hk).1).lt
          omega
        go_wp2_with fail
        generalize wr.alloc (.cells #[.int .i64 0, .int .i64 0, .int .i64 0, .int .i64 0] 34) = w6 at *
        generalize hN14 : wr.heap.size = N14 at *
        have HN14 : Hid (w.heap.size < N14) := by have := lt_of_block HB.out; show _ < _; omega
        clear hN14
        go_loopg [15] F.length (fun gk s15 wx => ∃ n : Nat, s15 = .int .i64 (n : Int) ∧ n + gk = F.length ∧ Hid (FO w wx (.slice aof F.length capf) F) ∧ Hid (Hd w wx S 200 (Vof ⟨dv, dk, ds⟩ F)) ∧ Hid (wx.heap[w.heap.size]? = some (.cells #[.int .i64 dv, .string dk, .int .i64 ds] 23 (0, 0))) ∧ Hid (G.AgAt wx N14 (lst F n)) ∧ Hid (∀ k, (Value.slice aof F.length capf).ownBlock = some k → k ≠ N14))
        case atStart => exact ⟨0, rfl, by omega, HFO1, HH1, HB1, HZ1, HNow⟩
        case round =>
          obtain ⟨n, rfl, hn, HFx, HHx, HBx, HZx, HNx⟩ := hrel
          have hfl : F.length ≤ 61 := by have := HFI.out.le; have := HFI.out.top; omega
          cases gk with
          | zero =>
            have t4 : ¬ (n : Int) < (F.length : Int) := by omega
            obtain rfl : n = F.length := by omega
            have HLa : Hid (lst F F.length = cur F) := lst_all F
            rw [HLa.out] at HZx
            generalize hla : cur F = la at *
            have HLc := hid hla
            have HGe := hid (fun (W : World) (hf : Fr wr W (fun _ => False)) => (show Calls Tryd.prog 8 #[.pointer (some ⟨S, 0, none⟩), .agg #[.int .i64 dv, .string dk, .int .i64 ds]] W fun r w' => r = .returned (.agg #[.int .i64 la.c, .int .i64 la.s, .int .i64 la.m, .int .i64 la.x]) ∧ Fr W w' (fun _ => False) from by
              obtain ⟨X, h1⟩ := (HHx.out.step hf).sh
              have h5 := get_any ⟨dv, dk, ds⟩ W h1 HDs.out
              have h6 := tell_Vof ⟨dv, dk, ds⟩ HD.out F 0
              rw [if_pos rfl, HLc.out] at h6
              rw [show (0 : Int) = ((0 : Nat) : Int) from rfl, h6] at h5
              exact h5))
            clear hla hn
            have HK := hid (fun (W' : World) (hf : Fr wr W' (fun _ => False)) => (show W'.cell? ⟨w.heap.size, 0, none⟩ = some (.int .i64 dv) ∧ W'.cell? ⟨w.heap.size, 1, none⟩ = some (.string dk) ∧ W'.cell? ⟨w.heap.size, 2, none⟩ = some (.int .i64 ds) ∧ W'.cell? ⟨N14, 0, none⟩ = some (.int .i64 la.c) ∧ W'.cell? ⟨N14, 1, none⟩ = some (.int .i64 la.s) ∧ W'.cell? ⟨N14, 2, none⟩ = some (.int .i64 la.m) ∧ W'.cell? ⟨N14, 3, none⟩ = some (.int .i64 la.x) from by
              obtain ⟨c0, c1, c2⟩ := cells3 ((hf.block _ (lt_of_block HBx.out) (fun h => h)).trans HBx.out)
              exact ⟨c0, c1, c2, (AgB.cells (HZx.out.fr hf (fun h => h))).1⟩))
            obtain ⟨k0, k1, k2, k3, k4, k5, k6⟩ := HK.out wr (Fr.refl _ _)
            have hkl := lt_of_block HBx.out
            have hzl := lt_of_block HZx.out
            have HF := hid (Fr.refl wr (fun _ => False))
            go_wp2_with fail
            go_region_held3 (fun W' => Hid (Fr wr W' (fun _ => False)) ∧ W'.cell? ⟨w.heap.size, 0, none⟩ = some (.int .i64 dv) ∧ W'.cell? ⟨w.heap.size, 1, none⟩ = some (.string dk) ∧ W'.cell? ⟨w.heap.size, 2, none⟩ = some (.int .i64 ds) ∧ W'.cell? ⟨N14, 0, none⟩ = some (.int .i64 la.c) ∧ W'.cell? ⟨N14, 1, none⟩ = some (.int .i64 la.s) ∧ W'.cell? ⟨N14, 2, none⟩ = some (.int .i64 la.m) ∧ W'.cell? ⟨N14, 3, none⟩ = some (.int .i64 la.x))
              ((refine (fun h => ⟨h, HK.out _ h⟩ : Fr wr _ (fun _ => False) → _) ?_; repeat (first | with_reducible exact HF.out | with_reducible exact Fr.refl _ _ | with_reducible apply Fr.drew | with_reducible apply Fr.alloc)))
              ((first
                | (go_at_call 8; refine (HGe.out _ (by repeat (first | with_reducible exact HF.out | with_reducible exact Fr.refl _ _ | with_reducible apply Fr.drew | with_reducible apply Fr.alloc))).mono ?_; rintro e w8 ⟨rfl, hf⟩; have HF := hid (Fr.trans (a := wr) (by repeat (first | with_reducible exact HF.out | with_reducible exact Fr.refl _ _ | with_reducible apply Fr.drew | with_reducible apply Fr.alloc)) hf); clear hf)
                | (go_at_call 11; refine (HHd.out _ (HHx.out.fr.trans (by repeat (first | with_reducible exact HF.out | with_reducible exact Fr.refl _ _ | with_reducible apply Fr.drew | with_reducible apply Fr.alloc)))).mono ?_; rintro e w9 ⟨rfl, hf⟩; have HF := hid (Fr.trans (a := wr) (by repeat (first | with_reducible exact HF.out | with_reducible exact Fr.refl _ _ | with_reducible apply Fr.drew | with_reducible apply Fr.alloc)) hf); clear hf)))
            all_goals (go_wp2_with fail)
            all_goals go_ret
            all_goals exact ⟨rfl, HHx.out.fr.trans (by repeat (first | with_reducible exact HF.out | with_reducible exact Fr.refl _ _ | with_reducible apply Fr.drew | with_reducible apply Fr.alloc))⟩
          | succ g3 =>
            have t4 : (n : Int) < (F.length : Int) := by omega
            have t5 : (0 : Int) ≤ (n : Int) := by omega
            have hnl : n < F.length := by omega
            have HN3 := hid hn
            have HLs := hid (lst_step F n hnl)
            have HWn : Hid (IntKind.i64.wrap ((n : Int) + 1) = ((n + 1 : Nat) : Int)) := by show _ = _; rw [wrap_fit (by unfold fits; omega)]; rfl
            have hne : F ≠ [] := by rintro rfl; simp at hnl
            obtain ⟨gf, cap2, hv2, hff, hgl⟩ := HFx.out.at hne
            simp only [Value.slice.injEq] at hv2
            obtain ⟨rfl, _, rfl⟩ := hv2
            obtain ⟨f0, f1, f2, f3⟩ := HFx.out.cells n hnl
            have HGn : Hid (gf ≠ N14) := HNx.out gf rfl
            have hel : F.getD n a0 = a0 ∨ 1 ≤ (F.getD n a0).c := HFI.out.el _ (by simp only [List.getD, List.getElem?_eq_getElem hnl, Option.getD_some]; exact List.getElem_mem _)
            clear hn
            by_cases hc0 : (F.getD n a0).c = 0
            · have HLa := hid (show lst F (n + 1) = lst F n by rw [HLs.out, if_pos hc0])
              generalize lst F n = la at *
              rw [hc0] at f0
              clear hc0 hel f1 f2 f3 HLs
              have hgn : gf < wr.heap.size := hgl
              have HAt := hid (fun (W : World) (hf : Fr wr W (fun _ => False)) => (show Calls Tryd.prog 10 #[.pointer (some ⟨S, 0, none⟩), .agg #[.int .i64 dv, .string dk, .int .i64 ds], .int .i64 (IntKind.i64.wrap ((n : Int) + 1))] W fun r w' => r = .returned (.agg #[.int .i64 la.c, .int .i64 la.s, .int .i64 la.m, .int .i64 la.x]) ∧ Fr W w' (fun _ => False) from by
                obtain ⟨X, h1⟩ := (HHx.out.step hf).sh
                have h5 := at_any ⟨dv, dk, ds⟩ ((n + 1 : Nat) : Int) W h1 HDs.out
                rw [tell_Vof ⟨dv, dk, ds⟩ HD.out F (n + 1), if_neg (by omega), HLa.out] at h5
                rw [HWn.out]
                exact h5))
              have HK := hid (fun (W' : World) (hf : Fr wr W' (fun _ => False)) => (show W'.cell? ⟨w.heap.size, 0, none⟩ = some (.int .i64 dv) ∧ W'.cell? ⟨w.heap.size, 1, none⟩ = some (.string dk) ∧ W'.cell? ⟨w.heap.size, 2, none⟩ = some (.int .i64 ds) ∧ W'.cell? ⟨N14, 0, none⟩ = some (.int .i64 la.c) ∧ W'.cell? ⟨N14, 1, none⟩ = some (.int .i64 la.s) ∧ W'.cell? ⟨N14, 2, none⟩ = some (.int .i64 la.m) ∧ W'.cell? ⟨N14, 3, none⟩ = some (.int .i64 la.x) from by
                obtain ⟨c0, c1, c2⟩ := cells3 ((hf.block _ (lt_of_block HBx.out) (fun h => h)).trans HBx.out)
                exact ⟨c0, c1, c2, (AgB.cells (HZx.out.fr hf (fun h => h))).1⟩))
              obtain ⟨k0, k1, k2, k3, k4, k5, k6⟩ := HK.out wr (Fr.refl _ _)
              have hkl := lt_of_block HBx.out
              have hzl := lt_of_block HZx.out
              have HF := hid (Fr.refl wr (fun _ => False))
              go_wp2_with fail
              go_region_held3 (fun W' => Hid (Fr wr W' (fun _ => False)) ∧ W'.cell? ⟨w.heap.size, 0, none⟩ = some (.int .i64 dv) ∧ W'.cell? ⟨w.heap.size, 1, none⟩ = some (.string dk) ∧ W'.cell? ⟨w.heap.size, 2, none⟩ = some (.int .i64 ds) ∧ W'.cell? ⟨N14, 0, none⟩ = some (.int .i64 la.c) ∧ W'.cell? ⟨N14, 1, none⟩ = some (.int .i64 la.s) ∧ W'.cell? ⟨N14, 2, none⟩ = some (.int .i64 la.m) ∧ W'.cell? ⟨N14, 3, none⟩ = some (.int .i64 la.x))
                ((refine (fun h => ⟨h, HK.out _ h⟩ : Fr wr _ (fun _ => False) → _) ?_; repeat (first | with_reducible exact HF.out | with_reducible exact Fr.refl _ _ | with_reducible apply Fr.drew | with_reducible apply Fr.alloc)))
                ((go_at_call 10; refine (HAt.out _ (by repeat (first | with_reducible exact HF.out | with_reducible exact Fr.refl _ _ | with_reducible apply Fr.drew | with_reducible apply Fr.alloc))).mono ?_; rintro e w8 ⟨rfl, hf⟩; have HF := hid (Fr.trans (a := wr) (by repeat (first | with_reducible exact HF.out | with_reducible exact Fr.refl _ _ | with_reducible apply Fr.drew | with_reducible apply Fr.alloc)) hf); clear hf))
              go_wp2_with fail
              go_roundg g3
              case measure => omega
              case rel =>
                refine ⟨n + 1, by go_num, by have := HN3.out; omega, HFx.out.fr HF.out (fun _ _ h => h), HHx.out.step HF.out, (HF.out.block _ (lt_of_block HBx.out) (fun h => h)).trans HBx.out, ?_, HNx⟩
                show G.AgAt _ N14 (lst F (n + 1))
                rw [HLa.out]
                exact HZx.out.fr HF.out (fun h => h)
            · have t6 : (0 : Int) < (F.getD n a0).c := by
                rcases hel with h1 | h1
                · rw [h1] at hc0; exact absurd rfl hc0
                · omega
              have HLa := hid (show lst F (n + 1) = F.getD n a0 by rw [HLs.out, if_neg hc0])
              generalize F.getD n a0 = la at *
              obtain ⟨⟨z0, z1, z2, z3⟩, hzf⟩ := AgB.cells HZx.out
              have hzl := lt_of_block HZx.out
              have HZ7 := hid (AgB.set HZx.out la)
              have HS7 := hid (((((Fr.refl wr (fun b => b = N14)).setCell (p := ⟨N14, 0, none⟩) (fun _ => rfl) (.int .i64 la.c)).setCell (p := ⟨N14, 1, none⟩) (fun _ => rfl) (.int .i64 la.s)).setCell (p := ⟨N14, 2, none⟩) (fun _ => rfl) (.int .i64 la.m)).setCell (p := ⟨N14, 3, none⟩) (fun _ => rfl) (.int .i64 la.x))
              have HH7 := hid (HHx.out.beside HS7.out (fun b _ hb => by subst hb; exact ⟨Nat.le_of_lt HN14.out, 34, ⟨_, HZx.out⟩, by unfold okT; decide⟩))
              have HF7 := hid (HFx.out.fr HS7.out (fun k hk e2 => HNx.out k hk e2))
              have HB7 := hid ((HS7.out.block _ (lt_of_block HBx.out) (fun e2 => by have := HN14.out; omega)).trans HBx.out)
              clear hc0 hel HLs
              go_wp2_with fail
              generalize (((wr.setCell ⟨N14, 0, none⟩ (.int .i64 la.c)).setCell ⟨N14, 1, none⟩ (.int .i64 la.s)).setCell ⟨N14, 2, none⟩ (.int .i64 la.m)).setCell ⟨N14, 3, none⟩ (.int .i64 la.x) = w7 at *
              clear HHx HBx HZx HFx f0 f1 f2 f3 z0 z1 z2 z3 hzf hzl hff hgl
              have HHx := HH7
              have HBx := HB7
              have HZx := HZ7
              have HFx := HF7
              clear HH7 HB7 HZ7 HF7
              have HAt := hid (fun (W : World) (hf : Fr w7 W (fun _ => False)) => (show Calls Tryd.prog 10 #[.pointer (some ⟨S, 0, none⟩), .agg #[.int .i64 dv, .string dk, .int .i64 ds], .int .i64 (IntKind.i64.wrap ((n : Int) + 1))] W fun r w' => r = .returned (.agg #[.int .i64 la.c, .int .i64 la.s, .int .i64 la.m, .int .i64 la.x]) ∧ Fr W w' (fun _ => False) from by
                obtain ⟨X, h1⟩ := (HHx.out.step hf).sh
                have h5 := at_any ⟨dv, dk, ds⟩ ((n + 1 : Nat) : Int) W h1 HDs.out
                rw [tell_Vof ⟨dv, dk, ds⟩ HD.out F (n + 1), if_neg (by omega), HLa.out] at h5
                rw [HWn.out]
                exact h5))
              have HK := hid (fun (W' : World) (hf : Fr w7 W' (fun _ => False)) => (show W'.cell? ⟨w.heap.size, 0, none⟩ = some (.int .i64 dv) ∧ W'.cell? ⟨w.heap.size, 1, none⟩ = some (.string dk) ∧ W'.cell? ⟨w.heap.size, 2, none⟩ = some (.int .i64 ds) ∧ W'.cell? ⟨N14, 0, none⟩ = some (.int .i64 la.c) ∧ W'.cell? ⟨N14, 1, none⟩ = some (.int .i64 la.s) ∧ W'.cell? ⟨N14, 2, none⟩ = some (.int .i64 la.m) ∧ W'.cell? ⟨N14, 3, none⟩ = some (.int .i64 la.x) from by
                obtain ⟨c0, c1, c2⟩ := cells3 ((hf.block _ (lt_of_block HBx.out) (fun h => h)).trans HBx.out)
                exact ⟨c0, c1, c2, (AgB.cells (HZx.out.fr hf (fun h => h))).1⟩))
              obtain ⟨k0, k1, k2, k3, k4, k5, k6⟩ := HK.out w7 (Fr.refl _ _)
              have hkl := lt_of_block HBx.out
              have hzl := lt_of_block HZx.out
              have HF := hid (Fr.refl w7 (fun _ => False))
              go_region_held3 (fun W' => Hid (Fr w7 W' (fun _ => False)) ∧ W'.cell? ⟨w.heap.size, 0, none⟩ = some (.int .i64 dv) ∧ W'.cell? ⟨w.heap.size, 1, none⟩ = some (.string dk) ∧ W'.cell? ⟨w.heap.size, 2, none⟩ = some (.int .i64 ds) ∧ W'.cell? ⟨N14, 0, none⟩ = some (.int .i64 la.c) ∧ W'.cell? ⟨N14, 1, none⟩ = some (.int .i64 la.s) ∧ W'.cell? ⟨N14, 2, none⟩ = some (.int .i64 la.m) ∧ W'.cell? ⟨N14, 3, none⟩ = some (.int .i64 la.x))
                ((refine (fun h => ⟨h, HK.out _ h⟩ : Fr w7 _ (fun _ => False) → _) ?_; repeat (first | with_reducible exact HF.out | with_reducible exact Fr.refl _ _ | with_reducible apply Fr.drew | with_reducible apply Fr.alloc)))
                ((go_at_call 10; refine (HAt.out _ (by repeat (first | with_reducible exact HF.out | with_reducible exact Fr.refl _ _ | with_reducible apply Fr.drew | with_reducible apply Fr.alloc))).mono ?_; rintro e w8 ⟨rfl, hf⟩; have HF := hid (Fr.trans (a := w7) (by repeat (first | with_reducible exact HF.out | with_reducible exact Fr.refl _ _ | with_reducible apply Fr.drew | with_reducible apply Fr.alloc)) hf); clear hf))
              go_wp2_with fail
              go_roundg g3
              case measure => omega
              case rel =>
                refine ⟨n + 1, by go_num, by have := HN3.out; omega, HFx.out.fr HF.out (fun _ _ h => h), HHx.out.step HF.out, (HF.out.block _ (lt_of_block HBx.out) (fun h => h)).trans HBx.out, ?_, HNx⟩
                show G.AgAt _ N14 (lst F (n + 1))
                rw [HLa.out]
                exact HZx.out.fr HF.out (fun h => h)
      · have t1 : ¬ (i : Int) < (xs.length : Int) := by omega
        clear hgk hlt
        have HH1 := hid (HH.out.step (alloc_fr wr (.cells #[.int .i64 0, .int .i64 0, .int .i64 0, .int .i64 0] 34) (fun _ => False)))
        have HFO1 := hid (HFO.out.fr (alloc_fr wr (.cells #[.int .i64 0, .int .i64 0, .int .i64 0, .int .i64 0] 34) (fun _ => False)) (fun _ _ h => h))
        have HB1 := hid ((Below.heap_alloc wr (.cells #[.int .i64 0, .int .i64 0, .int .i64 0, .int .i64 0] 34) _ (lt_of_block HB.out)).trans HB.out)
        have HZ1 := hid (AgB.new0 wr wr.heap.size rfl)
        have HNow : Hid (∀ k, (Value.slice aof F.length capf).ownBlock = some k → k ≠ wr.heap.size) := fun k hk e2 => by
          have := ((HFO.out.kd k hk).1).lt
          omega
        go_wp2_with fail
        generalize wr.alloc (.cells #[.int .i64 0, .int .i64 0, .int .i64 0, .int .i64 0] 34) = w6 at *
        generalize hN14 : wr.heap.size = N14 at *
        have HN14 : Hid (w.heap.size < N14) := by have := lt_of_block HB.out; show _ < _; omega
        clear hN14
        go_loopg [15] F.length (fun gk s15 wx => ∃ n : Nat, s15 = .int .i64 (n : Int) ∧ n + gk = F.length ∧ Hid (FO w wx (.slice aof F.length capf) F) ∧ Hid (Hd w wx S 200 (Vof ⟨dv, dk, ds⟩ F)) ∧ Hid (wx.heap[w.heap.size]? = some (.cells #[.int .i64 dv, .string dk, .int .i64 ds] 23 (0, 0))) ∧ Hid (G.AgAt wx N14 (lst F n)) ∧ Hid (∀ k, (Value.slice aof F.length capf).ownBlock = some k → k ≠ N14))
        case atStart => exact ⟨0, rfl, by omega, HFO1, HH1, HB1, HZ1, HNow⟩
        case round =>
          obtain ⟨n, rfl, hn, HFx, HHx, HBx, HZx, HNx⟩ := hrel
          have hfl : F.length ≤ 61 := by have := HFI.out.le; have := HFI.out.top; omega
          cases gk with
          | zero =>
            have t4 : ¬ (n : Int) < (F.length : Int) := by omega
            obtain rfl : n = F.length := by omega
            have HLa : Hid (lst F F.length = cur F) := lst_all F
            rw [HLa.out] at HZx
            generalize hla : cur F = la at *
            have HLc := hid hla
            have HGe := hid (fun (W : World) (hf : Fr wr W (fun _ => False)) => (show Calls Tryd.prog 8 #[.pointer (some ⟨S, 0, none⟩), .agg #[.int .i64 dv, .string dk, .int .i64 ds]] W fun r w' => r = .returned (.agg #[.int .i64 la.c, .int .i64 la.s, .int .i64 la.m, .int .i64 la.x]) ∧ Fr W w' (fun _ => False) from by
              obtain ⟨X, h1⟩ := (HHx.out.step hf).sh
              have h5 := get_any ⟨dv, dk, ds⟩ W h1 HDs.out
              have h6 := tell_Vof ⟨dv, dk, ds⟩ HD.out F 0
              rw [if_pos rfl, HLc.out] at h6
              rw [show (0 : Int) = ((0 : Nat) : Int) from rfl, h6] at h5
              exact h5))
            clear hla hn
            have HK := hid (fun (W' : World) (hf : Fr wr W' (fun _ => False)) => (show W'.cell? ⟨w.heap.size, 0, none⟩ = some (.int .i64 dv) ∧ W'.cell? ⟨w.heap.size, 1, none⟩ = some (.string dk) ∧ W'.cell? ⟨w.heap.size, 2, none⟩ = some (.int .i64 ds) ∧ W'.cell? ⟨N14, 0, none⟩ = some (.int .i64 la.c) ∧ W'.cell? ⟨N14, 1, none⟩ = some (.int .i64 la.s) ∧ W'.cell? ⟨N14, 2, none⟩ = some (.int .i64 la.m) ∧ W'.cell? ⟨N14, 3, none⟩ = some (.int .i64 la.x) from by
              obtain ⟨c0, c1, c2⟩ := cells3 ((hf.block _ (lt_of_block HBx.out) (fun h => h)).trans HBx.out)
              exact ⟨c0, c1, c2, (AgB.cells (HZx.out.fr hf (fun h => h))).1⟩))
            obtain ⟨k0, k1, k2, k3, k4, k5, k6⟩ := HK.out wr (Fr.refl _ _)
            have hkl := lt_of_block HBx.out
            have hzl := lt_of_block HZx.out
            have HF := hid (Fr.refl wr (fun _ => False))
            go_wp2_with fail
            go_region_held3 (fun W' => Hid (Fr wr W' (fun _ => False)) ∧ W'.cell? ⟨w.heap.size, 0, none⟩ = some (.int .i64 dv) ∧ W'.cell? ⟨w.heap.size, 1, none⟩ = some (.string dk) ∧ W'.cell? ⟨w.heap.size, 2, none⟩ = some (.int .i64 ds) ∧ W'.cell? ⟨N14, 0, none⟩ = some (.int .i64 la.c) ∧ W'.cell? ⟨N14, 1, none⟩ = some (.int .i64 la.s) ∧ W'.cell? ⟨N14, 2, none⟩ = some (.int .i64 la.m) ∧ W'.cell? ⟨N14, 3, none⟩ = some (.int .i64 la.x))
              ((refine (fun h => ⟨h, HK.out _ h⟩ : Fr wr _ (fun _ => False) → _) ?_; repeat (first | with_reducible exact HF.out | with_reducible exact Fr.refl _ _ | with_reducible apply Fr.drew | with_reducible apply Fr.alloc)))
              ((first
                | (go_at_call 8; refine (HGe.out _ (by repeat (first | with_reducible exact HF.out | with_reducible exact Fr.refl _ _ | with_reducible apply Fr.drew | with_reducible apply Fr.alloc))).mono ?_; rintro e w8 ⟨rfl, hf⟩; have HF := hid (Fr.trans (a := wr) (by repeat (first | with_reducible exact HF.out | with_reducible exact Fr.refl _ _ | with_reducible apply Fr.drew | with_reducible apply Fr.alloc)) hf); clear hf)
                | (go_at_call 11; refine (HHd.out _ (HHx.out.fr.trans (by repeat (first | with_reducible exact HF.out | with_reducible exact Fr.refl _ _ | with_reducible apply Fr.drew | with_reducible apply Fr.alloc)))).mono ?_; rintro e w9 ⟨rfl, hf⟩; have HF := hid (Fr.trans (a := wr) (by repeat (first | with_reducible exact HF.out | with_reducible exact Fr.refl _ _ | with_reducible apply Fr.drew | with_reducible apply Fr.alloc)) hf); clear hf)))
            all_goals (go_wp2_with fail)
            all_goals go_ret
            all_goals exact ⟨rfl, HHx.out.fr.trans (by repeat (first | with_reducible exact HF.out | with_reducible exact Fr.refl _ _ | with_reducible apply Fr.drew | with_reducible apply Fr.alloc))⟩
          | succ g3 =>
            have t4 : (n : Int) < (F.length : Int) := by omega
            have t5 : (0 : Int) ≤ (n : Int) := by omega
            have hnl : n < F.length := by omega
            have HN3 := hid hn
            have HLs := hid (lst_step F n hnl)
            have HWn : Hid (IntKind.i64.wrap ((n : Int) + 1) = ((n + 1 : Nat) : Int)) := by show _ = _; rw [wrap_fit (by unfold fits; omega)]; rfl
            have hne : F ≠ [] := by rintro rfl; simp at hnl
            obtain ⟨gf, cap2, hv2, hff, hgl⟩ := HFx.out.at hne
            simp only [Value.slice.injEq] at hv2
            obtain ⟨rfl, _, rfl⟩ := hv2
            obtain ⟨f0, f1, f2, f3⟩ := HFx.out.cells n hnl
            have HGn : Hid (gf ≠ N14) := HNx.out gf rfl
            have hel : F.getD n a0 = a0 ∨ 1 ≤ (F.getD n a0).c := HFI.out.el _ (by simp only [List.getD, List.getElem?_eq_getElem hnl, Option.getD_some]; exact List.getElem_mem _)
            clear hn
            by_cases hc0 : (F.getD n a0).c = 0
            · have HLa := hid (show lst F (n + 1) = lst F n by rw [HLs.out, if_pos hc0])
              generalize lst F n = la at *
              rw [hc0] at f0
              clear hc0 hel f1 f2 f3 HLs
              have hgn : gf < wr.heap.size := hgl
              have HAt := hid (fun (W : World) (hf : Fr wr W (fun _ => False)) => (show Calls Tryd.prog 10 #[.pointer (some ⟨S, 0, none⟩), .agg #[.int .i64 dv, .string dk, .int .i64 ds], .int .i64 (IntKind.i64.wrap ((n : Int) + 1))] W fun r w' => r = .returned (.agg #[.int .i64 la.c, .int .i64 la.s, .int .i64 la.m, .int .i64 la.x]) ∧ Fr W w' (fun _ => False) from by
                obtain ⟨X, h1⟩ := (HHx.out.step hf).sh
                have h5 := at_any ⟨dv, dk, ds⟩ ((n + 1 : Nat) : Int) W h1 HDs.out
                rw [tell_Vof ⟨dv, dk, ds⟩ HD.out F (n + 1), if_neg (by omega), HLa.out] at h5
                rw [HWn.out]
                exact h5))
              have HK := hid (fun (W' : World) (hf : Fr wr W' (fun _ => False)) => (show W'.cell? ⟨w.heap.size, 0, none⟩ = some (.int .i64 dv) ∧ W'.cell? ⟨w.heap.size, 1, none⟩ = some (.string dk) ∧ W'.cell? ⟨w.heap.size, 2, none⟩ = some (.int .i64 ds) ∧ W'.cell? ⟨N14, 0, none⟩ = some (.int .i64 la.c) ∧ W'.cell? ⟨N14, 1, none⟩ = some (.int .i64 la.s) ∧ W'.cell? ⟨N14, 2, none⟩ = some (.int .i64 la.m) ∧ W'.cell? ⟨N14, 3, none⟩ = some (.int .i64 la.x) from by
                obtain ⟨c0, c1, c2⟩ := cells3 ((hf.block _ (lt_of_block HBx.out) (fun h => h)).trans HBx.out)
                exact ⟨c0, c1, c2, (AgB.cells (HZx.out.fr hf (fun h => h))).1⟩))
              obtain ⟨k0, k1, k2, k3, k4, k5, k6⟩ := HK.out wr (Fr.refl _ _)
              have hkl := lt_of_block HBx.out
              have hzl := lt_of_block HZx.out
              have HF := hid (Fr.refl wr (fun _ => False))
              go_wp2_with fail
              go_region_held3 (fun W' => Hid (Fr wr W' (fun _ => False)) ∧ W'.cell? ⟨w.heap.size, 0, none⟩ = some (.int .i64 dv) ∧ W'.cell? ⟨w.heap.size, 1, none⟩ = some (.string dk) ∧ W'.cell? ⟨w.heap.size, 2, none⟩ = some (.int .i64 ds) ∧ W'.cell? ⟨N14, 0, none⟩ = some (.int .i64 la.c) ∧ W'.cell? ⟨N14, 1, none⟩ = some (.int .i64 la.s) ∧ W'.cell? ⟨N14, 2, none⟩ = some (.int .i64 la.m) ∧ W'.cell? ⟨N14, 3, none⟩ = some (.int .i64 la.x))
                ((refine (fun h => ⟨h, HK.out _ h⟩ : Fr wr _ (fun _ => False) → _) ?_; repeat (first | with_reducible exact HF.out | with_reducible exact Fr.refl _ _ | with_reducible apply Fr.drew | with_reducible apply Fr.alloc)))
                ((go_at_call 10; refine (HAt.out _ (by repeat (first | with_reducible exact HF.out | with_reducible exact Fr.refl _ _ | with_reducible apply Fr.drew | with_reducible apply Fr.alloc))).mono ?_; rintro e w8 ⟨rfl, hf⟩; have HF := hid (Fr.trans (a := wr) (by repeat (first | with_reducible exact HF.out | with_reducible exact Fr.refl _ _ | with_reducible apply Fr.drew | with_reducible apply Fr.alloc)) hf); clear hf))
              go_wp2_with fail
              go_roundg g3
              case measure => omega
              case rel =>
                refine ⟨n + 1, by go_num, by have := HN3.out; omega, HFx.out.fr HF.out (fun _ _ h => h), HHx.out.step HF.out, (HF.out.block _ (lt_of_block HBx.out) (fun h => h)).trans HBx.out, ?_, HNx⟩
                show G.AgAt _ N14 (lst F (n + 1))
                rw [HLa.out]
                exact HZx.out.fr HF.out (fun h => h)
            · have t6 : (0 : Int) < (F.getD n a0).c := by
                rcases hel with h1 | h1
                · rw [h1] at hc0; exact absurd rfl hc0
                · omega
              have HLa := hid (show lst F (n + 1) = F.getD n a0 by rw [HLs.out, if_neg hc0])
              generalize F.getD n a0 = la at *
              obtain ⟨⟨z0, z1, z2, z3⟩, hzf⟩ := AgB.cells HZx.out
              have hzl := lt_of_block HZx.out
              have HZ7 := hid (AgB.set HZx.out la)
              have HS7 := hid (((((Fr.refl wr (fun b => b = N14)).setCell (p := ⟨N14, 0, none⟩) (fun _ => rfl) (.int .i64 la.c)).setCell (p := ⟨N14, 1, none⟩) (fun _ => rfl) (.int .i64 la.s)).setCell (p := ⟨N14, 2, none⟩) (fun _ => rfl) (.int .i64 la.m)).setCell (p := ⟨N14, 3, none⟩) (fun _ => rfl) (.int .i64 la.x))
              have HH7 := hid (HHx.out.beside HS7.out (fun b _ hb => by subst hb; exact ⟨Nat.le_of_lt HN14.out, 34, ⟨_, HZx.out⟩, by unfold okT; decide⟩))
              have HF7 := hid (HFx.out.fr HS7.out (fun k hk e2 => HNx.out k hk e2))
              have HB7 := hid ((HS7.out.block _ (lt_of_block HBx.out) (fun e2 => by have := HN14.out; omega)).trans HBx.out)
              clear hc0 hel HLs
              go_wp2_with fail
              generalize (((wr.setCell ⟨N14, 0, none⟩ (.int .i64 la.c)).setCell ⟨N14, 1, none⟩ (.int .i64 la.s)).setCell ⟨N14, 2, none⟩ (.int .i64 la.m)).setCell ⟨N14, 3, none⟩ (.int .i64 la.x) = w7 at *
              clear HHx HBx HZx HFx f0 f1 f2 f3 z0 z1 z2 z3 hzf hzl hff hgl
              have HHx := HH7
              have HBx := HB7
              have HZx := HZ7
              have HFx := HF7
              clear HH7 HB7 HZ7 HF7
              have HAt := hid (fun (W : World) (hf : Fr w7 W (fun _ => False)) => (show Calls Tryd.prog 10 #[.pointer (some ⟨S, 0, none⟩), .agg #[.int .i64 dv, .string dk, .int .i64 ds], .int .i64 (IntKind.i64.wrap ((n : Int) + 1))] W fun r w' => r = .returned (.agg #[.int .i64 la.c, .int .i64 la.s, .int .i64 la.m, .int .i64 la.x]) ∧ Fr W w' (fun _ => False) from by
                obtain ⟨X, h1⟩ := (HHx.out.step hf).sh
                have h5 := at_any ⟨dv, dk, ds⟩ ((n + 1 : Nat) : Int) W h1 HDs.out
                rw [tell_Vof ⟨dv, dk, ds⟩ HD.out F (n + 1), if_neg (by omega), HLa.out] at h5
                rw [HWn.out]
                exact h5))
              have HK := hid (fun (W' : World) (hf : Fr w7 W' (fun _ => False)) => (show W'.cell? ⟨w.heap.size, 0, none⟩ = some (.int .i64 dv) ∧ W'.cell? ⟨w.heap.size, 1, none⟩ = some (.string dk) ∧ W'.cell? ⟨w.heap.size, 2, none⟩ = some (.int .i64 ds) ∧ W'.cell? ⟨N14, 0, none⟩ = some (.int .i64 la.c) ∧ W'.cell? ⟨N14, 1, none⟩ = some (.int .i64 la.s) ∧ W'.cell? ⟨N14, 2, none⟩ = some (.int .i64 la.m) ∧ W'.cell? ⟨N14, 3, none⟩ = some (.int .i64 la.x) from by
                obtain ⟨c0, c1, c2⟩ := cells3 ((hf.block _ (lt_of_block HBx.out) (fun h => h)).trans HBx.out)
                exact ⟨c0, c1, c2, (AgB.cells (HZx.out.fr hf (fun h => h))).1⟩))
              obtain ⟨k0, k1, k2, k3, k4, k5, k6⟩ := HK.out w7 (Fr.refl _ _)
              have hkl := lt_of_block HBx.out
              have hzl := lt_of_block HZx.out
              have HF := hid (Fr.refl w7 (fun _ => False))
              go_region_held3 (fun W' => Hid (Fr w7 W' (fun _ => False)) ∧ W'.cell? ⟨w.heap.size, 0, none⟩ = some (.int .i64 dv) ∧ W'.cell? ⟨w.heap.size, 1, none⟩ = some (.string dk) ∧ W'.cell? ⟨w.heap.size, 2, none⟩ = some (.int .i64 ds) ∧ W'.cell? ⟨N14, 0, none⟩ = some (.int .i64 la.c) ∧ W'.cell? ⟨N14, 1, none⟩ = some (.int .i64 la.s) ∧ W'.cell? ⟨N14, 2, none⟩ = some (.int .i64 la.m) ∧ W'.cell? ⟨N14, 3, none⟩ = some (.int .i64 la.x))
                ((refine (fun h => ⟨h, HK.out _ h⟩ : Fr w7 _ (fun _ => False) → _) ?_; repeat (first | with_reducible exact HF.out | with_reducible exact Fr.refl _ _ | with_reducible apply Fr.drew | with_reducible apply Fr.alloc)))
                ((go_at_call 10; refine (HAt.out _ (by repeat (first | with_reducible exact HF.out | with_reducible exact Fr.refl _ _ | with_reducible apply Fr.drew | with_reducible apply Fr.alloc))).mono ?_; rintro e w8 ⟨rfl, hf⟩; have HF := hid (Fr.trans (a := w7) (by repeat (first | with_reducible exact HF.out | with_reducible exact Fr.refl _ _ | with_reducible apply Fr.drew | with_reducible apply Fr.alloc)) hf); clear hf))
              go_wp2_with fail
              go_roundg g3
              case measure => omega
              case rel =>
                refine ⟨n + 1, by go_num, by have := HN3.out; omega, HFx.out.fr HF.out (fun _ _ h => h), HHx.out.step HF.out, (HF.out.block _ (lt_of_block HBx.out) (fun h => h)).trans HBx.out, ?_, HNx⟩
                show G.AgAt _ N14 (lst F (n + 1))
                rw [HLa.out]
                exact HZx.out.fr HF.out (fun h => h)
    | succ g =>
      have t1 : (i : Int) < (xs.length : Int) := by omega
      have t2 : (i : Int) < 60 := by omega
      have HG := hid hgk
      obtain ⟨bx, ofx, hbx, hcx⟩ := HXc.out (by rintro rfl; simp at hgk)
      subst hbx
      have hxi := hcx i (by omega)
      clear hgk
      have hxr : wr.cell? ⟨bx, ofx + i, none⟩ = some (.int .i64 (xs.getD i 0)) := by rw [(fr_rules HH.out.fr).1 _ _ (World.block_lt_of_cell? w _ hxi)]; exact hxi
      have HXi : Hid (fits (xs.getD i 0)) := HXf.out _ (by simp only [List.getD, List.getElem?_eq_getElem (show i < xs.length by omega), Option.getD_some]; exact List.getElem_mem _)
      generalize xs.getD i 0 = x at *
      clear hcx hxi
      by_cases hyn : ys = []
      · have t3 : ¬ (0 : Int) < (ys.length : Int) := by rw [hyn]; simp
        clear hyn
        go_wp2_with fail
        obtain ⟨q1, q2, q3, q4, q5⟩ := HFI.out.step (ep' := ep) (x := x.tdiv 1000) (by omega) (thou _ HXi.out).1 (thou _ HXi.out).2 (by omega) ⟨dv, dk, ds⟩ HD.out (by omega)
        have HGe := hid (fun (W : World) (hf : Fr wr W (fun _ => False)) => (show Calls Tryd.prog 8 #[.pointer (some ⟨S, 0, none⟩), .agg #[.int .i64 dv, .string dk, .int .i64 ds]] W fun r w' => r = .returned (.agg #[.int .i64 (cur F).c, .int .i64 (cur F).s, .int .i64 (cur F).m, .int .i64 (cur F).x]) ∧ Fr W w' (fun _ => False) from by
          obtain ⟨X, h1⟩ := (HH.out.step hf).sh
          have h5 := get_any ⟨dv, dk, ds⟩ W h1 HDs.out
          have h6 := tell_Vof ⟨dv, dk, ds⟩ HD.out F 0
          rw [if_pos rfl] at h6
          rw [show (0 : Int) = ((0 : Nat) : Int) from rfl, h6] at h5
          exact h5))
        have HAp := hid (fun W => aput HFI.out.cu (show i ≤ 100 by omega) (thou _ HXi.out).1 (thou _ HXi.out).2 W)
        rw [← (show IntKind.i64.wrap (x.tdiv 1000) = x.tdiv 1000 from wrap_fit (by have := thou _ HXi.out; unfold fits; omega))] at HAp
        have HPu := hid (fun (W : World) (h : Hd w W S 200 (Vof ⟨dv, dk, ds⟩ F)) => hput ((ep : Nat) : Int) ⟨dv, dk, ds⟩ (stepA4 (cur F) (x.tdiv 1000)) W h HDs.out q5)
        rw [q2, q3, show (((ep : Nat)) : Int) = (ep : Int) from rfl] at HPu
        rw [show IntKind.i64.wrap (x.tdiv 1000) = x.tdiv 1000 from wrap_fit (by have := thou _ HXi.out; unfold fits; omega)] at HAp
        have HWx := hid (show IntKind.i64.wrap (x.tdiv 1000) = x.tdiv 1000 from wrap_fit (by have := thou _ HXi.out; unfold fits; omega))
        dsimp only at HPu
        have HQ1 := hid q1
        have HQ4 := hid q4
        have HSf : Hid (setF F ep (stepA4 (cur F) (x.tdiv 1000)) = (F ++ List.replicate (ep - F.length) a0).set (ep - 1) (stepA4 (cur F) (x.tdiv 1000))) := rfl
        have hFle : F.length ≤ ep := by have := HFI.out.le; omega
        clear q1 q2 q3 q4 q5
        generalize setF F ep (stepA4 (cur F) (x.tdiv 1000)) = F' at *
        generalize stepA4 (cur F) (x.tdiv 1000) = a' at *
        have HAq := hid (fun W => (show Calls Tryd.prog 7 #[.agg #[.int .i64 (cur F).c, .int .i64 (cur F).s, .int .i64 (cur F).m, .int .i64 (cur F).x], .int .i64 (IntKind.i64.wrap (x.tdiv 1000))] W fun e w' => e = .returned (.tuple #[.agg #[.int .i64 a'.c, .int .i64 a'.s, .int .i64 a'.m, .int .i64 a'.x], .nilIface]) ∧ Fr W w' (fun _ => False) from by rw [HWx.out]; exact HAp.out W))
        have HK := hid (fun (W' : World) (hf : Fr wr W' (fun _ => False)) => (show W'.cell? ⟨w.heap.size, 0, none⟩ = some (.int .i64 dv) ∧ W'.cell? ⟨w.heap.size, 1, none⟩ = some (.string dk) ∧ W'.cell? ⟨w.heap.size, 2, none⟩ = some (.int .i64 ds) ∧ W'.cell? ⟨bx, ofx + i, none⟩ = some (.int .i64 x) from by
          obtain ⟨c0, c1, c2⟩ := cells3 ((hf.block _ (lt_of_block HB.out) (fun h => h)).trans HB.out)
          exact ⟨c0, c1, c2, by rw [(fr_rules hf).1 _ _ (World.block_lt_of_cell? wr _ hxr)]; exact hxr⟩))
        obtain ⟨k0, k1, k2, k3⟩ := HK.out wr (Fr.refl _ _)
        have hkl := lt_of_block HB.out
        have hbl : bx < wr.heap.size := World.block_lt_of_cell? wr _ hxr
        have HF := hid (Fr.refl wr (fun _ => False))
        go_cut [12, 13] (fun s12 s13 wx => ∃ N12, s12 = .pointer (some ⟨N12, 0, none⟩) ∧ s13 = .nilIface ∧ Hid (G.AgAt wx N12 a' ∧ wr.heap.size ≤ N12 ∧ Fr wr wx (fun _ => False)))
        case first =>
          go_region_held3 (fun W' => Hid (Fr wr W' (fun _ => False)) ∧ W'.cell? ⟨w.heap.size, 0, none⟩ = some (.int .i64 dv) ∧ W'.cell? ⟨w.heap.size, 1, none⟩ = some (.string dk) ∧ W'.cell? ⟨w.heap.size, 2, none⟩ = some (.int .i64 ds) ∧ W'.cell? ⟨bx, ofx + i, none⟩ = some (.int .i64 x))
            ((refine (fun h => ⟨h, HK.out _ h⟩ : Fr wr _ (fun _ => False) → _) ?_; repeat (first | with_reducible exact HF.out | with_reducible exact Fr.refl _ _ | with_reducible apply Fr.drew | with_reducible apply Fr.alloc | (with_reducible refine Fr.setCell ?_ ?_ _; rotate_left; (intro h; exfalso; first | (dsimp only at h; omega) | (simp at h; omega))))))
            ((first
              | (go_at_call 8; refine (HGe.out _ (by repeat (first | with_reducible exact HF.out | with_reducible exact Fr.refl _ _ | with_reducible apply Fr.drew | with_reducible apply Fr.alloc))).mono ?_; rintro e w4 ⟨rfl, hf⟩; (try (have HZ := hid (G.AgAt.fr (by first | exact AgB.new0 _ wr.heap.size rfl | exact AgB.drew (AgB.new0 _ wr.heap.size rfl)) hf (fun h => h)); have HZn := hid (Nat.le_refl wr.heap.size); have hzl := lt_of_block HZ.out)); have HF := hid (Fr.trans (a := wr) (by repeat (first | with_reducible exact HF.out | with_reducible exact Fr.refl _ _ | with_reducible apply Fr.drew | with_reducible apply Fr.alloc)) hf); have hs1 := HF.out.size; clear hf)
              | (go_at_call 7; refine (HAq.out _).mono ?_; rintro e w5 ⟨rfl, hf⟩; (try (have HZ := hid (G.AgAt.fr (by first | exact HZ.out | exact AgB.drew HZ.out | exact AgB.new0 _ _ rfl | exact AgB.drew (AgB.new0 _ _ rfl)) hf (fun h => h)); obtain ⟨⟨z0, z1, z2, z3⟩, y0⟩ := AgB.cells HZ.out; have hzl2 := lt_of_block HZ.out)); have HF := hid (Fr.trans (a := wr) (by repeat (first | with_reducible exact HF.out | with_reducible exact Fr.refl _ _ | with_reducible apply Fr.drew | with_reducible apply Fr.alloc)) hf); have hs2 := HF.out.size; clear hf)))
          all_goals (go_wp2_with fail)
          all_goals go_meet
          all_goals refine ⟨_, rfl, rfl, hid ⟨(by first | (with_reducible apply AgB.set; exact HZ.out) | (with_reducible apply AgB.drew; with_reducible apply AgB.set; exact HZ.out) | (with_reducible apply AgB.new; rfl) | (with_reducible apply AgB.drew; with_reducible apply AgB.new; rfl)), (by first | omega | exact HZn.out | (simp; omega)), ?_⟩⟩
          all_goals (repeat (first | with_reducible exact HF.out | with_reducible exact Fr.refl _ _ | with_reducible apply Fr.drew | with_reducible apply Fr.alloc | (with_reducible refine Fr.setCell ?_ ?_ _; rotate_left; (intro h; exfalso; first | (dsimp only at h; omega) | (simp at h; omega)))))
        case rest =>
          obtain ⟨N12, rfl, rfl, HX⟩ := hcut
          obtain ⟨⟨z0, z1, z2, z3⟩, _⟩ := AgB.cells HX.out.1
          have hzl := lt_of_block HX.out.1
          have HBc := hid ((HX.out.2.2.block _ (lt_of_block HB.out) (fun h => h)).trans HB.out)
          obtain ⟨k0, k1, k2⟩ := cells3 HBc.out
          have hkl := lt_of_block HBc.out
          have HHc := hid (HH.out.step HX.out.2.2)
          have HFOc := hid (HFO.out.fr HX.out.2.2 (fun _ _ h => h))
          clear k3
          go_wp2_with fail
          refine (HPu.out _ HHc.out).mono ?_
          rintro r w5 ⟨rfl, h5, hk5⟩
          have H5 := hid h5
          have HZ5 : Hid (G.AgAt w5 N12 a') := hk5.block HX.out.1 (by unfold okT; decide)
          have HB5 := hid (hk5.block HBc.out (by unfold okT; decide))
          have HFO5 := hid (HFOc.out.kp hk5)
          have HN12 := hid (show w.heap.size < N12 by have h1 := HX.out.2.1; have h2 := lt_of_block HB.out; omega)
          have HNow : Hid (∀ k, (Value.slice aof F.length capf).ownBlock = some k → k ≠ N12) := by
            intro k hk e2
            have h1 := ((HFO.out.kd k hk).1).lt
            have h2 := HX.out.2.1
            omega
          clear h5 hk5 HPu HHc HBc HFOc
          go_wp2_with fail
          go_loopg [10] (ep - F.length) (fun gk s10 wx => ∃ j : Nat, j + gk = ep - F.length ∧ Hid (FO w wx s10 (F ++ List.replicate j a0)) ∧ Hid (Hd w wx S 200 (Vof ⟨dv, dk, ds⟩ F')) ∧ Hid (wx.heap[w.heap.size]? = some (.cells #[.int .i64 dv, .string dk, .int .i64 ds] 23 (0, 0))) ∧ Hid (G.AgAt wx N12 a') ∧ Hid (∀ k, s10.ownBlock = some k → k ≠ N12))
          case atStart => exact ⟨0, by omega, by show FO _ _ _ (F ++ []); rw [List.append_nil]; exact HFO5.out, H5, HB5, HZ5, HNow⟩
          case round =>
            obtain ⟨j, hj, HFj, HHj, HBj, HZj, HNj⟩ := hrel
            obtain ⟨aoj, capj, hsl⟩ := HFj.out.shape
            have HLj : Hid ((F ++ List.replicate j a0).length = F.length + j) := by show _ = _; simp
            generalize hFj : F ++ List.replicate j a0 = Fj at *
            have HFjE := hid hFj
            subst hsl
            clear hFj
            have hlj := HLj.out
            cases gk with
            | zero =>
              have hjj : j = ep - F.length := by omega
              have t4 : ¬ (Fj.length : Int) < (ep : Int) := by omega
              have hne : Fj ≠ [] := by rintro rfl; simp at hlj; omega
              obtain ⟨gf, cap2, hv2, hff, hgl⟩ := HFj.out.at hne
              simp only [Value.slice.injEq] at hv2
              obtain ⟨rfl, _, rfl⟩ := hv2
              obtain ⟨f0, f1, f2, f3⟩ := HFj.out.cells (ep - 1) (by omega)
              obtain ⟨⟨z0, z1, z2, z3⟩, _⟩ := AgB.cells HZj.out
              have hzl := lt_of_block HZj.out
              have t5 : 0 ≤ (ep : Int) - 1 := by omega
              have t6 : (ep : Int) - 1 < (Fj.length : Int) := by omega
              have HGn : Hid (gf ≠ N12) := HNj.out gf rfl
              have HJJ := hid hjj
              have HGk := hid (HFj.out.kd gf rfl)
              have HFs := hid (HFj.out.set (ep - 1) (by omega) a')
              clear hj hjj hlj
              go_wp2_with fail
              go_roundg g
              case measure => omega
              case rel =>
                have hset := setA_fr wr gf ((ep - 1) * 4) a'
                have hF' : F' = Fj.set (ep - 1) a' := by rw [HSf.out, ← HFjE.out, HJJ.out]; try rfl
                refine ⟨i + 1, ep, F', rfl, by go_num, by have := HG.out; omega, HQ1, ?_, ?_, ?_⟩
                · show FO w _ _ F'
                  rw [hF']
                  have := HFs.out
                  unfold FO at this ⊢
                  rw [List.length_set]
                  rw [List.length_set] at this
                  exact this
                · exact HHj.out.beside hset (fun b _ hb => by subst hb; exact ⟨HGk.out.2, 34, HGk.out.1, by unfold okT; decide⟩)
                · exact (hset.block _ (lt_of_block HBj.out) (fun e2 => HGk.out.1.ne ⟨_, HBj.out⟩ (by decide) e2.symm)).trans HBj.out
            | succ g2 =>
              have t4 : (Fj.length : Int) < (ep : Int) := by omega
              have HJ := hid hj
              have hFn : Fj.length ≤ 1000 := by omega
              have hsw := HHj.out.fr.size
              clear hj hlj
              go_wp2_with (at_builtin; go_must (refine wpl_fo (w := w) rfl (.tmp 81) (.tmp 83) rfl _ Fj rfl wr.heap.size 1 rfl hFn ?c1 ?c2 ?c3 ?_))
              case c1 => exact HFj.out.fr (alloc_fr _ _ (fun _ => False)) (fun _ _ h => h)
              case c2 => simp; omega
              case c3 => exact heap_last _ _ _ rfl
              intro v' w6 hF6 hf6 hat
              have HF6 := hid hF6
              have HFw := hid hf6
              have HAt := hid hat
              clear hF6 hf6 hat
              obtain ⟨ao6, cap6, hs6⟩ := HF6.out.shape
              subst hs6
              go_wp2_with fail
              go_roundg g2
              case measure => omega
              case rel =>
                have ha := alloc_fr wr (.cells #[.int .i64 0, .int .i64 0, .int .i64 0, .int .i64 0] 34) (fun _ => False)
                have hown : ∀ k, (Value.slice aoj Fj.length capj).ownBlock = some k → Kd wr k 34 ∧ w.heap.size ≤ k := HFj.out.kd
                have hkd : ∀ {k t}, Kd wr k t → Kd (wr.alloc (.cells #[.int .i64 0, .int .i64 0, .int .i64 0, .int .i64 0] 34)) k t := fun {k t} ⟨cs, h⟩ => ⟨cs, (ha.block k (lt_of_block h) (fun h => h)).trans h⟩
                refine ⟨j + 1, by have := HJ.out; omega, ?_, ?_, ?_, ?_, ?_⟩
                · show FO w _ _ (F ++ List.replicate (j + 1) a0)
                  rw [List.replicate_succ', ← List.append_assoc, HFjE.out]
                  exact HF6.out
                · exact (HHj.out.step ha).beside HFw.out (fun b _ hb => ⟨(hown b hb).2, 34, hkd (hown b hb).1, by unfold okT; decide⟩)
                · exact (HFw.out.block _ (by simp; have := lt_of_block HBj.out; omega) (fun e2 => (hown _ e2).1.ne ⟨_, HBj.out⟩ (by decide) rfl)).trans ((ha.block _ (lt_of_block HBj.out) (fun h => h)).trans HBj.out)
                · exact (HZj.out.fr ha (fun h => h)).fr HFw.out (fun e2 => HNj.out _ e2 rfl)
                · intro k hk e2
                  rcases HAt.out with h1 | h1
                  · exact HNj.out k (h1 ▸ hk) e2
                  · rw [h1] at hk
                    simp only [Option.some.injEq] at hk
                    have := lt_of_block HZj.out
                    omega
      · have hyp : 0 < ys.length := List.length_pos_iff.2 hyn
        have t3 : (0 : Int) < (ys.length : Int) := by omega
        have t3b : ¬ (ys.length : Int) = 0 := by omega
        have t3c : ¬ (ys.length : Int) = -1 := by omega
        have t3d : ((ys.length : Int) == -1) = false := by simp
        have t3e : ((ys.length : Int) == 0) = false := by simp; omega
        obtain ⟨by', ofy, hby, hcy⟩ := HYc.out hyn
        subst hby
        obtain ⟨m, hm1, hm2⟩ : ∃ m : Nat, (i : Int).tmod (ys.length : Int) = (m : Int) ∧ m < ys.length := ⟨i % ys.length, by rw [Int.tmod_eq_emod_of_nonneg (by omega)]; rfl, Nat.mod_lt _ hyp⟩
        have hyi := hcy m hm2
        have hyr : wr.cell? ⟨by', ofy + m, none⟩ = some (.int .i64 (ys.getD m 0)) := by rw [(fr_rules HH.out.fr).1 _ _ (World.block_lt_of_cell? w _ hyi)]; exact hyi
        have hyl2 : by' < wr.heap.size := World.block_lt_of_cell? wr _ hyr
        generalize ys.getD m 0 = y at *
        have t7 : (0 : Int) ≤ (m : Int) := by omega
        have t8 : (m : Int) < (ys.length : Int) := by omega
        have HWy := hid (fun W => within_any y 3 (by decide) (by decide) W)
        clear hyn hcy hyi hyp
        go_wp2_with fail
        refine (HWy.out _).mono ?_
        rintro r w4 ⟨rfl, hw⟩
        have hw := hw.symm
        subst hw
        by_cases hy0 : y % 3 = 0
        · rw [hy0]
          clear hy0
          go_wp2_with fail
          obtain ⟨q1, q2, q3, q4, q5⟩ := HFI.out.step (ep' := (ep + 1)) (x := x.tdiv 1000) (by omega) (thou _ HXi.out).1 (thou _ HXi.out).2 (by omega) ⟨dv, dk, ds⟩ HD.out (by omega)
          have HGe := hid (fun (W : World) (hf : Fr wr W (fun _ => False)) => (show Calls Tryd.prog 8 #[.pointer (some ⟨S, 0, none⟩), .agg #[.int .i64 dv, .string dk, .int .i64 ds]] W fun r w' => r = .returned (.agg #[.int .i64 (cur F).c, .int .i64 (cur F).s, .int .i64 (cur F).m, .int .i64 (cur F).x]) ∧ Fr W w' (fun _ => False) from by
            obtain ⟨X, h1⟩ := (HH.out.step hf).sh
            have h5 := get_any ⟨dv, dk, ds⟩ W h1 HDs.out
            have h6 := tell_Vof ⟨dv, dk, ds⟩ HD.out F 0
            rw [if_pos rfl] at h6
            rw [show (0 : Int) = ((0 : Nat) : Int) from rfl, h6] at h5
            exact h5))
          have HAp := hid (fun W => aput HFI.out.cu (show i ≤ 100 by omega) (thou _ HXi.out).1 (thou _ HXi.out).2 W)
          rw [← (show IntKind.i64.wrap (x.tdiv 1000) = x.tdiv 1000 from wrap_fit (by have := thou _ HXi.out; unfold fits; omega))] at HAp
          have HPu := hid (fun (W : World) (h : Hd w W S 200 (Vof ⟨dv, dk, ds⟩ F)) => hput (((ep + 1) : Nat) : Int) ⟨dv, dk, ds⟩ (stepA4 (cur F) (x.tdiv 1000)) W h HDs.out q5)
          rw [q2, q3, show ((((ep + 1) : Nat)) : Int) = ((ep : Int) + 1) from rfl] at HPu
          rw [show IntKind.i64.wrap (x.tdiv 1000) = x.tdiv 1000 from wrap_fit (by have := thou _ HXi.out; unfold fits; omega)] at HAp
          have HWx := hid (show IntKind.i64.wrap (x.tdiv 1000) = x.tdiv 1000 from wrap_fit (by have := thou _ HXi.out; unfold fits; omega))
          dsimp only at HPu
          have HQ1 := hid q1
          have HQ4 := hid q4
          have HSf : Hid (setF F (ep + 1) (stepA4 (cur F) (x.tdiv 1000)) = (F ++ List.replicate ((ep + 1) - F.length) a0).set ((ep + 1) - 1) (stepA4 (cur F) (x.tdiv 1000))) := rfl
          have hFle : F.length ≤ (ep + 1) := by have := HFI.out.le; omega
          clear q1 q2 q3 q4 q5
          generalize setF F (ep + 1) (stepA4 (cur F) (x.tdiv 1000)) = F' at *
          generalize stepA4 (cur F) (x.tdiv 1000) = a' at *
          have HAq := hid (fun W => (show Calls Tryd.prog 7 #[.agg #[.int .i64 (cur F).c, .int .i64 (cur F).s, .int .i64 (cur F).m, .int .i64 (cur F).x], .int .i64 (IntKind.i64.wrap (x.tdiv 1000))] W fun e w' => e = .returned (.tuple #[.agg #[.int .i64 a'.c, .int .i64 a'.s, .int .i64 a'.m, .int .i64 a'.x], .nilIface]) ∧ Fr W w' (fun _ => False) from by rw [HWx.out]; exact HAp.out W))
          have HK := hid (fun (W' : World) (hf : Fr wr W' (fun _ => False)) => (show W'.cell? ⟨w.heap.size, 0, none⟩ = some (.int .i64 dv) ∧ W'.cell? ⟨w.heap.size, 1, none⟩ = some (.string dk) ∧ W'.cell? ⟨w.heap.size, 2, none⟩ = some (.int .i64 ds) ∧ W'.cell? ⟨bx, ofx + i, none⟩ = some (.int .i64 x) from by
            obtain ⟨c0, c1, c2⟩ := cells3 ((hf.block _ (lt_of_block HB.out) (fun h => h)).trans HB.out)
            exact ⟨c0, c1, c2, by rw [(fr_rules hf).1 _ _ (World.block_lt_of_cell? wr _ hxr)]; exact hxr⟩))
          obtain ⟨k0, k1, k2, k3⟩ := HK.out wr (Fr.refl _ _)
          have hkl := lt_of_block HB.out
          have hbl : bx < wr.heap.size := World.block_lt_of_cell? wr _ hxr
          have HF := hid (Fr.refl wr (fun _ => False))
          go_cut [12, 13] (fun s12 s13 wx => ∃ N12, s12 = .pointer (some ⟨N12, 0, none⟩) ∧ s13 = .nilIface ∧ Hid (G.AgAt wx N12 a' ∧ wr.heap.size ≤ N12 ∧ Fr wr wx (fun _ => False)))
          case first =>
            go_region_held3 (fun W' => Hid (Fr wr W' (fun _ => False)) ∧ W'.cell? ⟨w.heap.size, 0, none⟩ = some (.int .i64 dv) ∧ W'.cell? ⟨w.heap.size, 1, none⟩ = some (.string dk) ∧ W'.cell? ⟨w.heap.size, 2, none⟩ = some (.int .i64 ds) ∧ W'.cell? ⟨bx, ofx + i, none⟩ = some (.int .i64 x))
              ((refine (fun h => ⟨h, HK.out _ h⟩ : Fr wr _ (fun _ => False) → _) ?_; repeat (first | with_reducible exact HF.out | with_reducible exact Fr.refl _ _ | with_reducible apply Fr.drew | with_reducible apply Fr.alloc | (with_reducible refine Fr.setCell ?_ ?_ _; rotate_left; (intro h; exfalso; first | (dsimp only at h; omega) | (simp at h; omega))))))
              ((first
                | (go_at_call 8; refine (HGe.out _ (by repeat (first | with_reducible exact HF.out | with_reducible exact Fr.refl _ _ | with_reducible apply Fr.drew | with_reducible apply Fr.alloc))).mono ?_; rintro e w4 ⟨rfl, hf⟩; (try (have HZ := hid (G.AgAt.fr (by first | exact AgB.new0 _ wr.heap.size rfl | exact AgB.drew (AgB.new0 _ wr.heap.size rfl)) hf (fun h => h)); have HZn := hid (Nat.le_refl wr.heap.size); have hzl := lt_of_block HZ.out)); have HF := hid (Fr.trans (a := wr) (by repeat (first | with_reducible exact HF.out | with_reducible exact Fr.refl _ _ | with_reducible apply Fr.drew | with_reducible apply Fr.alloc)) hf); have hs1 := HF.out.size; clear hf)
                | (go_at_call 7; refine (HAq.out _).mono ?_; rintro e w5 ⟨rfl, hf⟩; (try (have HZ := hid (G.AgAt.fr (by first | exact HZ.out | exact AgB.drew HZ.out | exact AgB.new0 _ _ rfl | exact AgB.drew (AgB.new0 _ _ rfl)) hf (fun h => h)); obtain ⟨⟨z0, z1, z2, z3⟩, y0⟩ := AgB.cells HZ.out; have hzl2 := lt_of_block HZ.out)); have HF := hid (Fr.trans (a := wr) (by repeat (first | with_reducible exact HF.out | with_reducible exact Fr.refl _ _ | with_reducible apply Fr.drew | with_reducible apply Fr.alloc)) hf); have hs2 := HF.out.size; clear hf)))
            all_goals (go_wp2_with fail)
            all_goals go_meet
            all_goals refine ⟨_, rfl, rfl, hid ⟨(by first | (with_reducible apply AgB.set; exact HZ.out) | (with_reducible apply AgB.drew; with_reducible apply AgB.set; exact HZ.out) | (with_reducible apply AgB.new; rfl) | (with_reducible apply AgB.drew; with_reducible apply AgB.new; rfl)), (by first | omega | exact HZn.out | (simp; omega)), ?_⟩⟩
            all_goals (repeat (first | with_reducible exact HF.out | with_reducible exact Fr.refl _ _ | with_reducible apply Fr.drew | with_reducible apply Fr.alloc | (with_reducible refine Fr.setCell ?_ ?_ _; rotate_left; (intro h; exfalso; first | (dsimp only at h; omega) | (simp at h; omega)))))
          case rest =>
            obtain ⟨N12, rfl, rfl, HX⟩ := hcut
            obtain ⟨⟨z0, z1, z2, z3⟩, _⟩ := AgB.cells HX.out.1
            have hzl := lt_of_block HX.out.1
            have HBc := hid ((HX.out.2.2.block _ (lt_of_block HB.out) (fun h => h)).trans HB.out)
            obtain ⟨k0, k1, k2⟩ := cells3 HBc.out
            have hkl := lt_of_block HBc.out
            have HHc := hid (HH.out.step HX.out.2.2)
            have HFOc := hid (HFO.out.fr HX.out.2.2 (fun _ _ h => h))
            clear k3
            go_wp2_with fail
            refine (HPu.out _ HHc.out).mono ?_
            rintro r w5 ⟨rfl, h5, hk5⟩
            have H5 := hid h5
            have HZ5 : Hid (G.AgAt w5 N12 a') := hk5.block HX.out.1 (by unfold okT; decide)
            have HB5 := hid (hk5.block HBc.out (by unfold okT; decide))
            have HFO5 := hid (HFOc.out.kp hk5)
            have HN12 := hid (show w.heap.size < N12 by have h1 := HX.out.2.1; have h2 := lt_of_block HB.out; omega)
            have HNow : Hid (∀ k, (Value.slice aof F.length capf).ownBlock = some k → k ≠ N12) := by
              intro k hk e2
              have h1 := ((HFO.out.kd k hk).1).lt
              have h2 := HX.out.2.1
              omega
            clear h5 hk5 HPu HHc HBc HFOc
            go_wp2_with fail
            go_loopg [10] ((ep + 1) - F.length) (fun gk s10 wx => ∃ j : Nat, j + gk = (ep + 1) - F.length ∧ Hid (FO w wx s10 (F ++ List.replicate j a0)) ∧ Hid (Hd w wx S 200 (Vof ⟨dv, dk, ds⟩ F')) ∧ Hid (wx.heap[w.heap.size]? = some (.cells #[.int .i64 dv, .string dk, .int .i64 ds] 23 (0, 0))) ∧ Hid (G.AgAt wx N12 a') ∧ Hid (∀ k, s10.ownBlock = some k → k ≠ N12))
            case atStart => exact ⟨0, by omega, by show FO _ _ _ (F ++ []); rw [List.append_nil]; exact HFO5.out, H5, HB5, HZ5, HNow⟩
            case round =>
              obtain ⟨j, hj, HFj, HHj, HBj, HZj, HNj⟩ := hrel
              obtain ⟨aoj, capj, hsl⟩ := HFj.out.shape
              have HLj : Hid ((F ++ List.replicate j a0).length = F.length + j) := by show _ = _; simp
              generalize hFj : F ++ List.replicate j a0 = Fj at *
              have HFjE := hid hFj
              subst hsl
              clear hFj
              have hlj := HLj.out
              cases gk with
              | zero =>
                have hjj : j = (ep + 1) - F.length := by omega
                have t4 : ¬ (Fj.length : Int) < ((ep : Int) + 1) := by omega
                have hne : Fj ≠ [] := by rintro rfl; simp at hlj; omega
                obtain ⟨gf, cap2, hv2, hff, hgl⟩ := HFj.out.at hne
                simp only [Value.slice.injEq] at hv2
                obtain ⟨rfl, _, rfl⟩ := hv2
                obtain ⟨f0, f1, f2, f3⟩ := HFj.out.cells (ep) (by omega)
                obtain ⟨⟨z0, z1, z2, z3⟩, _⟩ := AgB.cells HZj.out
                have hzl := lt_of_block HZj.out
                have t5 : 0 ≤ ((ep : Int) + 1) - 1 := by omega
                have t6 : ((ep : Int) + 1) - 1 < (Fj.length : Int) := by omega
                have HGn : Hid (gf ≠ N12) := HNj.out gf rfl
                have HJJ := hid hjj
                have HGk := hid (HFj.out.kd gf rfl)
                have HFs := hid (HFj.out.set (ep) (by omega) a')
                clear hj hjj hlj
                go_wp2_with fail
                go_roundg g
                case measure => omega
                case rel =>
                  have hset := setA_fr wr gf ((ep) * 4) a'
                  have hF' : F' = Fj.set (ep) a' := by rw [HSf.out, ← HFjE.out, HJJ.out]; try rfl
                  refine ⟨i + 1, (ep + 1), F', rfl, by go_num, by have := HG.out; omega, HQ1, ?_, ?_, ?_⟩
                  · show FO w _ _ F'
                    rw [hF']
                    have := HFs.out
                    unfold FO at this ⊢
                    rw [List.length_set]
                    rw [List.length_set] at this
                    exact this
                  · exact HHj.out.beside hset (fun b _ hb => by subst hb; exact ⟨HGk.out.2, 34, HGk.out.1, by unfold okT; decide⟩)
                  · exact (hset.block _ (lt_of_block HBj.out) (fun e2 => HGk.out.1.ne ⟨_, HBj.out⟩ (by decide) e2.symm)).trans HBj.out
              | succ g2 =>
                have t4 : (Fj.length : Int) < ((ep : Int) + 1) := by omega
                have HJ := hid hj
                have hFn : Fj.length ≤ 1000 := by omega
                have hsw := HHj.out.fr.size
                clear hj hlj
                go_wp2_with (at_builtin; go_must (refine wpl_fo (w := w) rfl (.tmp 81) (.tmp 83) rfl _ Fj rfl wr.heap.size 1 rfl hFn ?c1 ?c2 ?c3 ?_))
                case c1 => exact HFj.out.fr (alloc_fr _ _ (fun _ => False)) (fun _ _ h => h)
                case c2 => simp; omega
                case c3 => exact heap_last _ _ _ rfl
                intro v' w6 hF6 hf6 hat
                have HF6 := hid hF6
                have HFw := hid hf6
                have HAt := hid hat
                clear hF6 hf6 hat
                obtain ⟨ao6, cap6, hs6⟩ := HF6.out.shape
                subst hs6
                go_wp2_with fail
                go_roundg g2
                case measure => omega
                case rel =>
                  have ha := alloc_fr wr (.cells #[.int .i64 0, .int .i64 0, .int .i64 0, .int .i64 0] 34) (fun _ => False)
                  have hown : ∀ k, (Value.slice aoj Fj.length capj).ownBlock = some k → Kd wr k 34 ∧ w.heap.size ≤ k := HFj.out.kd
                  have hkd : ∀ {k t}, Kd wr k t → Kd (wr.alloc (.cells #[.int .i64 0, .int .i64 0, .int .i64 0, .int .i64 0] 34)) k t := fun {k t} ⟨cs, h⟩ => ⟨cs, (ha.block k (lt_of_block h) (fun h => h)).trans h⟩
                  refine ⟨j + 1, by have := HJ.out; omega, ?_, ?_, ?_, ?_, ?_⟩
                  · show FO w _ _ (F ++ List.replicate (j + 1) a0)
                    rw [List.replicate_succ', ← List.append_assoc, HFjE.out]
                    exact HF6.out
                  · exact (HHj.out.step ha).beside HFw.out (fun b _ hb => ⟨(hown b hb).2, 34, hkd (hown b hb).1, by unfold okT; decide⟩)
                  · exact (HFw.out.block _ (by simp; have := lt_of_block HBj.out; omega) (fun e2 => (hown _ e2).1.ne ⟨_, HBj.out⟩ (by decide) rfl)).trans ((ha.block _ (lt_of_block HBj.out) (fun h => h)).trans HBj.out)
                  · exact (HZj.out.fr ha (fun h => h)).fr HFw.out (fun e2 => HNj.out _ e2 rfl)
                  · intro k hk e2
                    rcases HAt.out with h1 | h1
                    · exact HNj.out k (h1 ▸ hk) e2
                    · rw [h1] at hk
                      simp only [Option.some.injEq] at hk
                      have := lt_of_block HZj.out
                      omega
        · have t9 : (y % 3 == 0) = false := by simpa using hy0
          clear hy0
          go_wp2_with fail
          obtain ⟨q1, q2, q3, q4, q5⟩ := HFI.out.step (ep' := ep) (x := x.tdiv 1000) (by omega) (thou _ HXi.out).1 (thou _ HXi.out).2 (by omega) ⟨dv, dk, ds⟩ HD.out (by omega)
          have HGe := hid (fun (W : World) (hf : Fr wr W (fun _ => False)) => (show Calls Tryd.prog 8 #[.pointer (some ⟨S, 0, none⟩), .agg #[.int .i64 dv, .string dk, .int .i64 ds]] W fun r w' => r = .returned (.agg #[.int .i64 (cur F).c, .int .i64 (cur F).s, .int .i64 (cur F).m, .int .i64 (cur F).x]) ∧ Fr W w' (fun _ => False) from by
            obtain ⟨X, h1⟩ := (HH.out.step hf).sh
            have h5 := get_any ⟨dv, dk, ds⟩ W h1 HDs.out
            have h6 := tell_Vof ⟨dv, dk, ds⟩ HD.out F 0
            rw [if_pos rfl] at h6
            rw [show (0 : Int) = ((0 : Nat) : Int) from rfl, h6] at h5
            exact h5))
          have HAp := hid (fun W => aput HFI.out.cu (show i ≤ 100 by omega) (thou _ HXi.out).1 (thou _ HXi.out).2 W)
          rw [← (show IntKind.i64.wrap (x.tdiv 1000) = x.tdiv 1000 from wrap_fit (by have := thou _ HXi.out; unfold fits; omega))] at HAp
          have HPu := hid (fun (W : World) (h : Hd w W S 200 (Vof ⟨dv, dk, ds⟩ F)) => hput ((ep : Nat) : Int) ⟨dv, dk, ds⟩ (stepA4 (cur F) (x.tdiv 1000)) W h HDs.out q5)
          rw [q2, q3, show (((ep : Nat)) : Int) = (ep : Int) from rfl] at HPu
          rw [show IntKind.i64.wrap (x.tdiv 1000) = x.tdiv 1000 from wrap_fit (by have := thou _ HXi.out; unfold fits; omega)] at HAp
          have HWx := hid (show IntKind.i64.wrap (x.tdiv 1000) = x.tdiv 1000 from wrap_fit (by have := thou _ HXi.out; unfold fits; omega))
          dsimp only at HPu
          have HQ1 := hid q1
          have HQ4 := hid q4
          have HSf : Hid (setF F ep (stepA4 (cur F) (x.tdiv 1000)) = (F ++ List.replicate (ep - F.length) a0).set (ep - 1) (stepA4 (cur F) (x.tdiv 1000))) := rfl
          have hFle : F.length ≤ ep := by have := HFI.out.le; omega
          clear q1 q2 q3 q4 q5
          generalize setF F ep (stepA4 (cur F) (x.tdiv 1000)) = F' at *
          generalize stepA4 (cur F) (x.tdiv 1000) = a' at *
          have HAq := hid (fun W => (show Calls Tryd.prog 7 #[.agg #[.int .i64 (cur F).c, .int .i64 (cur F).s, .int .i64 (cur F).m, .int .i64 (cur F).x], .int .i64 (IntKind.i64.wrap (x.tdiv 1000))] W fun e w' => e = .returned (.tuple #[.agg #[.int .i64 a'.c, .int .i64 a'.s, .int .i64 a'.m, .int .i64 a'.x], .nilIface]) ∧ Fr W w' (fun _ => False) from by rw [HWx.out]; exact HAp.out W))
          have HK := hid (fun (W' : World) (hf : Fr wr W' (fun _ => False)) => (show W'.cell? ⟨w.heap.size, 0, none⟩ = some (.int .i64 dv) ∧ W'.cell? ⟨w.heap.size, 1, none⟩ = some (.string dk) ∧ W'.cell? ⟨w.heap.size, 2, none⟩ = some (.int .i64 ds) ∧ W'.cell? ⟨bx, ofx + i, none⟩ = some (.int .i64 x) from by
            obtain ⟨c0, c1, c2⟩ := cells3 ((hf.block _ (lt_of_block HB.out) (fun h => h)).trans HB.out)
            exact ⟨c0, c1, c2, by rw [(fr_rules hf).1 _ _ (World.block_lt_of_cell? wr _ hxr)]; exact hxr⟩))
          obtain ⟨k0, k1, k2, k3⟩ := HK.out wr (Fr.refl _ _)
          have hkl := lt_of_block HB.out
          have hbl : bx < wr.heap.size := World.block_lt_of_cell? wr _ hxr
          have HF := hid (Fr.refl wr (fun _ => False))
          go_cut [12, 13] (fun s12 s13 wx => ∃ N12, s12 = .pointer (some ⟨N12, 0, none⟩) ∧ s13 = .nilIface ∧ Hid (G.AgAt wx N12 a' ∧ wr.heap.size ≤ N12 ∧ Fr wr wx (fun _ => False)))
          case first =>
            go_region_held3 (fun W' => Hid (Fr wr W' (fun _ => False)) ∧ W'.cell? ⟨w.heap.size, 0, none⟩ = some (.int .i64 dv) ∧ W'.cell? ⟨w.heap.size, 1, none⟩ = some (.string dk) ∧ W'.cell? ⟨w.heap.size, 2, none⟩ = some (.int .i64 ds) ∧ W'.cell? ⟨bx, ofx + i, none⟩ = some (.int .i64 x))
              ((refine (fun h => ⟨h, HK.out _ h⟩ : Fr wr _ (fun _ => False) → _) ?_; repeat (first | with_reducible exact HF.out | with_reducible exact Fr.refl _ _ | with_reducible apply Fr.drew | with_reducible apply Fr.alloc | (with_reducible refine Fr.setCell ?_ ?_ _; rotate_left; (intro h; exfalso; first | (dsimp only at h; omega) | (simp at h; omega))))))
              ((first
                | (go_at_call 8; refine (HGe.out _ (by repeat (first | with_reducible exact HF.out | with_reducible exact Fr.refl _ _ | with_reducible apply Fr.drew | with_reducible apply Fr.alloc))).mono ?_; rintro e w4 ⟨rfl, hf⟩; (try (have HZ := hid (G.AgAt.fr (by first | exact AgB.new0 _ wr.heap.size rfl | exact AgB.drew (AgB.new0 _ wr.heap.size rfl)) hf (fun h => h)); have HZn := hid (Nat.le_refl wr.heap.size); have hzl := lt_of_block HZ.out)); have HF := hid (Fr.trans (a := wr) (by repeat (first | with_reducible exact HF.out | with_reducible exact Fr.refl _ _ | with_reducible apply Fr.drew | with_reducible apply Fr.alloc)) hf); have hs1 := HF.out.size; clear hf)
                | (go_at_call 7; refine (HAq.out _).mono ?_; rintro e w5 ⟨rfl, hf⟩; (try (have HZ := hid (G.AgAt.fr (by first | exact HZ.out | exact AgB.drew HZ.out | exact AgB.new0 _ _ rfl | exact AgB.drew (AgB.new0 _ _ rfl)) hf (fun h => h)); obtain ⟨⟨z0, z1, z2, z3⟩, y0⟩ := AgB.cells HZ.out; have hzl2 := lt_of_block HZ.out)); have HF := hid (Fr.trans (a := wr) (by repeat (first | with_reducible exact HF.out | with_reducible exact Fr.refl _ _ | with_reducible apply Fr.drew | with_reducible apply Fr.alloc)) hf); have hs2 := HF.out.size; clear hf)))
            all_goals (go_wp2_with fail)
            all_goals go_meet
            all_goals refine ⟨_, rfl, rfl, hid ⟨(by first | (with_reducible apply AgB.set; exact HZ.out) | (with_reducible apply AgB.drew; with_reducible apply AgB.set; exact HZ.out) | (with_reducible apply AgB.new; rfl) | (with_reducible apply AgB.drew; with_reducible apply AgB.new; rfl)), (by first | omega | exact HZn.out | (simp; omega)), ?_⟩⟩
            all_goals (repeat (first | with_reducible exact HF.out | with_reducible exact Fr.refl _ _ | with_reducible apply Fr.drew | with_reducible apply Fr.alloc | (with_reducible refine Fr.setCell ?_ ?_ _; rotate_left; (intro h; exfalso; first | (dsimp only at h; omega) | (simp at h; omega)))))
          case rest =>
            obtain ⟨N12, rfl, rfl, HX⟩ := hcut
            obtain ⟨⟨z0, z1, z2, z3⟩, _⟩ := AgB.cells HX.out.1
            have hzl := lt_of_block HX.out.1
            have HBc := hid ((HX.out.2.2.block _ (lt_of_block HB.out) (fun h => h)).trans HB.out)
            obtain ⟨k0, k1, k2⟩ := cells3 HBc.out
            have hkl := lt_of_block HBc.out
            have HHc := hid (HH.out.step HX.out.2.2)
            have HFOc := hid (HFO.out.fr HX.out.2.2 (fun _ _ h => h))
            clear k3
            go_wp2_with fail
            refine (HPu.out _ HHc.out).mono ?_
            rintro r w5 ⟨rfl, h5, hk5⟩
            have H5 := hid h5
            have HZ5 : Hid (G.AgAt w5 N12 a') := hk5.block HX.out.1 (by unfold okT; decide)
            have HB5 := hid (hk5.block HBc.out (by unfold okT; decide))
            have HFO5 := hid (HFOc.out.kp hk5)
            have HN12 := hid (show w.heap.size < N12 by have h1 := HX.out.2.1; have h2 := lt_of_block HB.out; omega)
            have HNow : Hid (∀ k, (Value.slice aof F.length capf).ownBlock = some k → k ≠ N12) := by
              intro k hk e2
              have h1 := ((HFO.out.kd k hk).1).lt
              have h2 := HX.out.2.1
              omega
            clear h5 hk5 HPu HHc HBc HFOc
            go_wp2_with fail
            go_loopg [10] (ep - F.length) (fun gk s10 wx => ∃ j : Nat, j + gk = ep - F.length ∧ Hid (FO w wx s10 (F ++ List.replicate j a0)) ∧ Hid (Hd w wx S 200 (Vof ⟨dv, dk, ds⟩ F')) ∧ Hid (wx.heap[w.heap.size]? = some (.cells #[.int .i64 dv, .string dk, .int .i64 ds] 23 (0, 0))) ∧ Hid (G.AgAt wx N12 a') ∧ Hid (∀ k, s10.ownBlock = some k → k ≠ N12))
            case atStart => exact ⟨0, by omega, by show FO _ _ _ (F ++ []); rw [List.append_nil]; exact HFO5.out, H5, HB5, HZ5, HNow⟩
            case round =>
              obtain ⟨j, hj, HFj, HHj, HBj, HZj, HNj⟩ := hrel
              obtain ⟨aoj, capj, hsl⟩ := HFj.out.shape
              have HLj : Hid ((F ++ List.replicate j a0).length = F.length + j) := by show _ = _; simp
              generalize hFj : F ++ List.replicate j a0 = Fj at *
              have HFjE := hid hFj
              subst hsl
              clear hFj
              have hlj := HLj.out
              cases gk with
              | zero =>
                have hjj : j = ep - F.length := by omega
                have t4 : ¬ (Fj.length : Int) < (ep : Int) := by omega
                have hne : Fj ≠ [] := by rintro rfl; simp at hlj; omega
                obtain ⟨gf, cap2, hv2, hff, hgl⟩ := HFj.out.at hne
                simp only [Value.slice.injEq] at hv2
                obtain ⟨rfl, _, rfl⟩ := hv2
                obtain ⟨f0, f1, f2, f3⟩ := HFj.out.cells (ep - 1) (by omega)
                obtain ⟨⟨z0, z1, z2, z3⟩, _⟩ := AgB.cells HZj.out
                have hzl := lt_of_block HZj.out
                have t5 : 0 ≤ (ep : Int) - 1 := by omega
                have t6 : (ep : Int) - 1 < (Fj.length : Int) := by omega
                have HGn : Hid (gf ≠ N12) := HNj.out gf rfl
                have HJJ := hid hjj
                have HGk := hid (HFj.out.kd gf rfl)
                have HFs := hid (HFj.out.set (ep - 1) (by omega) a')
                clear hj hjj hlj
                go_wp2_with fail
                go_roundg g
                case measure => omega
                case rel =>
                  have hset := setA_fr wr gf ((ep - 1) * 4) a'
                  have hF' : F' = Fj.set (ep - 1) a' := by rw [HSf.out, ← HFjE.out, HJJ.out]; try rfl
                  refine ⟨i + 1, ep, F', rfl, by go_num, by have := HG.out; omega, HQ1, ?_, ?_, ?_⟩
                  · show FO w _ _ F'
                    rw [hF']
                    have := HFs.out
                    unfold FO at this ⊢
                    rw [List.length_set]
                    rw [List.length_set] at this
                    exact this
                  · exact HHj.out.beside hset (fun b _ hb => by subst hb; exact ⟨HGk.out.2, 34, HGk.out.1, by unfold okT; decide⟩)
                  · exact (hset.block _ (lt_of_block HBj.out) (fun e2 => HGk.out.1.ne ⟨_, HBj.out⟩ (by decide) e2.symm)).trans HBj.out
              | succ g2 =>
                have t4 : (Fj.length : Int) < (ep : Int) := by omega
                have HJ := hid hj
                have hFn : Fj.length ≤ 1000 := by omega
                have hsw := HHj.out.fr.size
                clear hj hlj
                go_wp2_with (at_builtin; go_must (refine wpl_fo (w := w) rfl (.tmp 81) (.tmp 83) rfl _ Fj rfl wr.heap.size 1 rfl hFn ?c1 ?c2 ?c3 ?_))
                case c1 => exact HFj.out.fr (alloc_fr _ _ (fun _ => False)) (fun _ _ h => h)
                case c2 => simp; omega
                case c3 => exact heap_last _ _ _ rfl
                intro v' w6 hF6 hf6 hat
                have HF6 := hid hF6
                have HFw := hid hf6
                have HAt := hid hat
                clear hF6 hf6 hat
                obtain ⟨ao6, cap6, hs6⟩ := HF6.out.shape
                subst hs6
                go_wp2_with fail
                go_roundg g2
                case measure => omega
                case rel =>
                  have ha := alloc_fr wr (.cells #[.int .i64 0, .int .i64 0, .int .i64 0, .int .i64 0] 34) (fun _ => False)
                  have hown : ∀ k, (Value.slice aoj Fj.length capj).ownBlock = some k → Kd wr k 34 ∧ w.heap.size ≤ k := HFj.out.kd
                  have hkd : ∀ {k t}, Kd wr k t → Kd (wr.alloc (.cells #[.int .i64 0, .int .i64 0, .int .i64 0, .int .i64 0] 34)) k t := fun {k t} ⟨cs, h⟩ => ⟨cs, (ha.block k (lt_of_block h) (fun h => h)).trans h⟩
                  refine ⟨j + 1, by have := HJ.out; omega, ?_, ?_, ?_, ?_, ?_⟩
                  · show FO w _ _ (F ++ List.replicate (j + 1) a0)
                    rw [List.replicate_succ', ← List.append_assoc, HFjE.out]
                    exact HF6.out
                  · exact (HHj.out.step ha).beside HFw.out (fun b _ hb => ⟨(hown b hb).2, 34, hkd (hown b hb).1, by unfold okT; decide⟩)
                  · exact (HFw.out.block _ (by simp; have := lt_of_block HBj.out; omega) (fun e2 => (hown _ e2).1.ne ⟨_, HBj.out⟩ (by decide) rfl)).trans ((ha.block _ (lt_of_block HBj.out) (fun h => h)).trans HBj.out)
                  · exact (HZj.out.fr ha (fun h => h)).fr HFw.out (fun e2 => HNj.out _ e2 rfl)
                  · intro k hk e2
                    rcases HAt.out with h1 | h1
                    · exact HNj.out k (h1 ▸ hk) e2
                    · rw [h1] at hk
                      simp only [Option.some.injEq] at hk
                      have := lt_of_block HZj.out
                      omega
end Go.Proofs.YtcjadgnefojjgabDoor.S
