/- NetWay: the walk. -/
import Derived.Test.YtljkbnjdciljfaaNLend
import Derived.Test.YtljkbnjdciljfaaNPure3
import Derived.OwnWalk
namespace Go.Proofs.Ytljkbnjdciljfaa
open Go.RowKit

/-- make of bytes. -/
theorem wpl_make8 (w : World) {ops : Array Oper} {rest : List Oper} {o : Oper} {a : Act} {Q : Exit → Act → World → Prop} (hg : o.guard = none) (l c : Operand) (hop : o.op = Op.makeSlice 33 l c) (n : Nat) (hl : a.eval l = .int .i64 (n : Int)) (hc : a.eval c = .int .i64 (n : Int)) (hn : n ≤ 140737488355328)
    (h : ∀ w', Hid (Row8 w' w.heap.size (List.replicate n 0)) → Hid (Fr w w' (fun _ => False)) → wpList Try.prog ops Q rest (a.put o.dst (.slice (some ⟨w.heap.size, 0, none⟩) n n)) w') : wpList Try.prog ops Q (o :: rest) a w := by
  obtain ⟨i0, hi, hz0, hz1, hz2⟩ := info_parts Try.info5
  refine wpList_make_full w hg l c 33 hop w.heap.size 5 i0 (.int .u8 0) 1 Try.underlying33 hi hz0 hz1 .i64 .i64 _ _ n hl hc rfl rfl (by rw [hz2]; omega) (by unfold maxLen; omega) (Nat.le_refl _) fun w' hown hgr => h w' ?_ ?_
  · refine Row8.ofOwn (base := w.heap.size) (n := n) ?_
    rw [by8_replicate]
    rw [Nat.mul_one, show (Value.int IntKind.u8 0).cells = #[.int .u8 0] from rfl, toList_madeCells_one] at hown
    exact hown
  · exact Fr.grown (Fr.refl _ _) hgr (fun k _ e => by cases e)
theorem Row8.all {w : World} {g : Nat} {xs : List Nat} (h : Row8 w g xs) (cap : Nat) : Bs w (.slice (some ⟨g, 0, none⟩) xs.length cap) xs := by
  have h' : Row8 w g (xs ++ []) := by rw [List.append_nil]; exact h
  exact h'.bs
/-- The connection, as this law has it: so many bytes on the way, all else empty. -/
def WS (s : Np) (F a : Nat) : Prop := ∃ x, One s 64 x a 1 0 ∧ x.shut = false ∧ x.w.length = F ∧ x.i = [] ∧ x.o = []
theorem ws_new (a : Nat) : openE (np0 a 1) 64 = 0 ∧ WS (openS (np0 a 1) 64) 0 a := by
  obtain ⟨h1, h2⟩ := one_new (a := a) (b := 1) (c := 64) (by decide)
  exact ⟨h1, cp0, h2, rfl, rfl, rfl, rfl⟩
theorem ws_send {s : Np} {F a : Nat} (h : WS s F a) (n : Nat) : (F + n ≤ 1048576 → sendE s 64 (List.replicate n 0) = 0 ∧ WS (sendS s 64 (List.replicate n 0)) (F + n) a) ∧ (1048576 < F + n → sendE s 64 (List.replicate n 0) = 2 ∧ WS (sendS s 64 (List.replicate n 0)) F a) := by
  obtain ⟨x, h1, h2, rfl, h4, h5⟩ := h
  refine ⟨fun hl => ?_, fun hl => ?_⟩
  · obtain ⟨e1, e2⟩ := h1.send h2 (z := List.replicate n 0) (by rw [List.length_replicate]; exact hl)
    refine ⟨e1, { x with w := x.w ++ List.replicate n 0 }, by rw [e2]; exact h1.upd _ 0, h2, by simp, h4, h5⟩
  · obtain ⟨e1, e2⟩ := h1.sendMany h2 (z := List.replicate n 0) (by rw [List.length_replicate]; exact hl)
    exact ⟨e1, x, by rw [e2]; exact h1, h2, rfl, h4, h5⟩
theorem ws_bring {s : Np} {F a : Nat} (h : WS s F a) (hF : F ≤ 1048576) : findE s 64 = 0 ∧ s.m = 0 ∧ bringK s 64 1073741824 = min a F ∧ (bringS s 64 1073741824).m = min a F ∧ undI (bringS s 64 1073741824) 64 = F ∧ undO (bringS s 64 1073741824) 64 = 0 := by
  obtain ⟨x, h1, h2, rfl, h4, h5⟩ := h
  obtain ⟨e1, e2⟩ := h1.bring 1073741824
  have e3 : partN x.w.length (a - x.i.length) 1073741824 = min a x.w.length := by
    unfold partN
    rw [h4]
    simp only [List.length_nil]
    omega
  rw [e3] at e1 e2
  have h6 := h1.upd { x with i := x.i ++ x.w.take (min a x.w.length), w := x.w.drop (min a x.w.length) } (min a x.w.length)
  rw [← e2] at h6
  obtain ⟨e4, e5⟩ := h6.under
  refine ⟨h1.find, h1.m, e1, by rw [h6.m]; omega, ?_, ?_⟩
  · rw [e4, h4]
    simp
    omega
  · rw [e5]
    show x.o.length = 0
    rw [h5]; rfl
theorem wayS {w : World} {B n : Nat} {s : Np} (W W1 : World) (h : NI w W B s) (hr : Row8 W1 W.heap.size (List.replicate n 0)) (hf : Fr W W1 (fun _ => False)) : Calls Try.prog 17 #[.pointer (some ⟨B, 0, none⟩), .int .i64 64, .slice (some ⟨W.heap.size, 0, none⟩) n n] W1 fun e w' => e = .returned (.int .i64 (sendE s 64 (List.replicate n 0))) ∧ NI w w' B (sendS s 64 (List.replicate n 0)) := by
  have hb := hr.all n
  rw [List.length_replicate] at hb
  exact (h.still hf).send 64 (zs := List.replicate n 0) (by simp) hb (Nat.le_refl _)
set_option maxHeartbeats 8000000 in
set_option maxRecDepth 100000 in
theorem way_walk {w : World} (n0 n1 n2 : Int) : Calls Try.prog 5 #[.int .i64 n0, .int .i64 n1, .int .i64 n2] w fun e w' => e = .returned (.bool true) ∧ Fr w w' (fun _ => False) := by
  have HW0 := hid (within_any n0 1048578 (by omega) (by omega) w)
  have HW2 := hid (within_any n2 131072 (by omega) (by omega) w)
  have HW1 := hid (fun W => within_any n1 3 (by omega) (by omega) W)
  obtain ⟨F, hF⟩ : ∃ F : Nat, n0 % 1048578 = (F : Int) := ⟨(n0 % 1048578).toNat, by omega⟩
  have hF2 : F ≤ 1048577 := by omega
  obtain ⟨r, hr⟩ : ∃ r : Nat, n1 % 3 = (r : Int) := ⟨(n1 % 3).toNat, by omega⟩
  have hr2 : r ≤ 2 := by omega
  obtain ⟨q, hq⟩ : ∃ q : Nat, n2 % 131072 = (q : Int) := ⟨(n2 % 131072).toNat, by omega⟩
  have hq2 : q + 1 ≤ 131072 := by omega
  rw [hF] at HW0
  rw [hr] at HW1
  rw [hq] at HW2
  have HN := hid (nnew_i (w := w) w (a := 1 + q) (b := 1) (by omega) (by omega) (Fr.refl _ _))
  have HO := hid (fun (W : World) (B : Nat) (h : NI w W B (np0 (1 + q) 1)) => h.open 64)
  obtain ⟨ho1, ho2⟩ := ws_new (1 + q)
  rw [ho1] at HO
  have HWS := hid ho2
  have HQQ : Hid (1 + q ≤ 131072) := by show _ ≤ _; omega
  have HQ1 : Hid (1 ≤ 1 + q) := by show _ ≤ _; omega
  have eq1 : (1 : Int) + (q : Int) = ((1 + q : Nat) : Int) := by omega
  clear hF hr hq ho1 ho2
  generalize openS (np0 (1 + q) 1) 64 = s1 at *
  generalize ha : 1 + q = a at *
  have ha2 : a ≤ 131072 := HQQ.out
  clear ha hq2
  go_enter Try.func5, Try.ntmps5
  go_wp2_with fail
  refine HW0.out.mono ?_
  rintro e w1 ⟨rfl, h9⟩
  obtain rfl : w = w1 := h9.symm
  clear h9
  go_wp2_with fail
  refine HW2.out.mono ?_
  rintro e w1 ⟨rfl, h9⟩
  obtain rfl : w = w1 := h9.symm
  clear h9
  go_wp2_with fail
  clear eq1
  refine HN.out.mono ?_
  rintro e w1 ⟨B, rfl, h1⟩
  have H1 := hid h1
  clear h1 HN
  go_wp2_with fail
  refine (HO.out _ _ H1.out).mono ?_
  rintro e w2 ⟨rfl, h1⟩
  have H2 := hid h1
  clear h1 H1 HO
  go_wp2_with (at_make; go_must (refine wpl_make8 _ rfl (.tmp 37) (.tmp 37) rfl F rfl rfl (by omega) ?_))
  intro w3 HR3 HF3
  have HS3 := hid (wayS w2 w3 H2.out HR3.out HF3.out)
  clear HR3 HF3 H2
  by_cases hA : F ≤ 1048576
  · obtain ⟨e1, e2⟩ := (ws_send HWS.out F).1 (by omega)
    rw [e1] at HS3
    rw [Nat.zero_add] at e2
    have HWS2 := hid e2
    clear e1 e2 HWS
    generalize sendS s1 64 (List.replicate F 0) = s2 at *
    go_wp2_with fail
    refine HS3.out.mono ?_
    rintro e w4 ⟨rfl, h1⟩
    have H4 := hid h1
    clear h1 HS3
    have t1 : (F : Int) ≤ 1048576 := by omega
    by_cases hneg : F = 1048576 ∧ r = 0
    · obtain ⟨rfl, rfl⟩ := hneg
      obtain ⟨G, hG⟩ : ∃ G : Nat, G = 0 := ⟨0, rfl⟩
      go_wp2_with fail
      refine (HW1.out _).mono ?_
      rintro e w41 ⟨rfl, h9⟩
      obtain rfl : w4 = w41 := h9.symm
      clear h9
      go_wp2_with (at_make; go_must (refine wpl_make8 _ rfl (.tmp 64) (.tmp 64) rfl 0 rfl rfl (by omega) ?_))
      intro w5 HR5 HF5
      have HS5 := hid (wayS (n := 0) w4 w5 H4.out HR5.out HF5.out)
      clear HR5 HF5
      obtain ⟨e1, e2⟩ := (ws_send HWS2.out 0).1 (by omega)
      rw [e1] at HS5
      rw [Nat.add_zero] at e2
      have HWS3 := hid e2
      clear e1 e2 HWS2
      generalize sendS s2 64 (List.replicate 0 0) = s3 at *
      go_wp2_with fail
      refine HS5.out.mono ?_
      rintro e w6 ⟨rfl, h1⟩
      have H6 := hid h1
      clear h1 HS5
      obtain ⟨b1, b2, b3, b4, b5, b6⟩ := ws_bring HWS3.out (by omega)
      have HB6 := hid (H6.out.bring (by rw [b2]; omega) 64 1073741824)
      rw [b3, b1] at HB6
      have HU := hid (fun (W : World) (h : NI w W B (bringS s3 64 1073741824)) => h.under 64)
      rw [b5, b6] at HU
      have HM := hid (fun (W : World) (h : NI w W B (bringS s3 64 1073741824)) => h.moved)
      rw [b4] at HM
      clear b1 b2 b3 b4 b5 b6 H6 HWS3
      generalize bringS s3 64 1073741824 = s4 at *
      rw [Nat.min_eq_left (show a ≤ 1048576 by omega)] at *
      have t5 : (a : Int) ≤ 1048576 := by omega
      go_wp2_with fail
      refine HB6.out.mono ?_
      rintro e w7 ⟨rfl, h1⟩
      have H7 := hid h1
      clear h1
      go_wp2_with fail
      refine (HU.out _ H7.out).mono ?_
      rintro e w8 ⟨rfl, h1, h9⟩
      have H8 := hid h1
      clear h1 h9
      go_wp2_with fail
      refine (HM.out _ H8.out).mono ?_
      rintro e w9 ⟨rfl, h1, h9⟩
      have H9 := hid h1
      clear h1 h9
      go_wp2_with fail
      refine (head_any _).mono ?_
      rintro e w10 ⟨rfl, h1⟩
      have H10 := hid (H9.out.fr.trans h1)
      clear h1
      go_wp2_with fail
      go_ret
      exact ⟨rfl, H10.out⟩
    · obtain ⟨G, hG⟩ : ∃ G : Nat, (r : Int) + 1048576 - (F : Int) - 1 = (G : Int) := ⟨r + 1048575 - F, by omega⟩
      have t2 : ¬ (G : Int) < 0 := by omega
      have t3 : (r : Int) + 1048576 - (F : Int) = (G : Int) + 1 := by omega
      have t31 : G ≤ 1048577 := by omega
      by_cases hr1 : r ≤ 1
      · go_wp2_with fail
        refine (HW1.out _).mono ?_
        rintro e w41 ⟨rfl, h9⟩
        obtain rfl : w4 = w41 := h9.symm
        clear h9
        go_wp2_with (at_make; go_must (refine wpl_make8 _ rfl (.tmp 64) (.tmp 64) rfl G rfl rfl (by omega) ?_))
        intro w5 HR5 HF5
        have HS5 := hid (wayS w4 w5 H4.out HR5.out HF5.out)
        clear HR5 HF5
        obtain ⟨e1, e2⟩ := (ws_send HWS2.out G).1 (by omega)
        rw [e1] at HS5
        have HWS3 := hid e2
        clear e1 e2 HWS2
        generalize sendS s2 64 (List.replicate G 0) = s3 at *
        obtain ⟨F2, hF2⟩ : ∃ F2, F + G = F2 := ⟨_, rfl⟩
        rw [hF2] at HWS3
        have hF3 : F2 ≤ 1048576 := by omega
        have hF4 : 131072 ≤ F2 := by omega
        have t4 : (F : Int) + (G : Int) = (F2 : Int) := by omega
        have t6 : (F2 : Int) ≤ 1048576 := by omega
        clear hF2
        go_wp2_with fail
        refine HS5.out.mono ?_
        rintro e w6 ⟨rfl, h1⟩
        have H6 := hid h1
        clear h1 HS5
        obtain ⟨b1, b2, b3, b4, b5, b6⟩ := ws_bring HWS3.out (by omega)
        have HB6 := hid (H6.out.bring (by rw [b2]; omega) 64 1073741824)
        rw [b3, b1] at HB6
        have HU := hid (fun (W : World) (h : NI w W B (bringS s3 64 1073741824)) => h.under 64)
        rw [b5, b6] at HU
        have HM := hid (fun (W : World) (h : NI w W B (bringS s3 64 1073741824)) => h.moved)
        rw [b4] at HM
        clear b1 b2 b3 b4 b5 b6 H6 HWS3
        generalize bringS s3 64 1073741824 = s4 at *
        rw [Nat.min_eq_left (show a ≤ F2 by omega)] at *
        have t5 : (a : Int) ≤ (F2 : Int) := by omega
        go_wp2_with fail
        refine HB6.out.mono ?_
        rintro e w7 ⟨rfl, h1⟩
        have H7 := hid h1
        clear h1
        go_wp2_with fail
        refine (HU.out _ H7.out).mono ?_
        rintro e w8 ⟨rfl, h1, h9⟩
        have H8 := hid h1
        clear h1 h9
        go_wp2_with fail
        refine (HM.out _ H8.out).mono ?_
        rintro e w9 ⟨rfl, h1, h9⟩
        have H9 := hid h1
        clear h1 h9
        go_wp2_with fail
        refine (head_any _).mono ?_
        rintro e w10 ⟨rfl, h1⟩
        have H10 := hid (H9.out.fr.trans h1)
        clear h1
        go_wp2_with fail
        go_ret
        exact ⟨rfl, H10.out⟩
      · by_cases hm : a ≤ F
        · go_wp2_with fail
          refine (HW1.out _).mono ?_
          rintro e w41 ⟨rfl, h9⟩
          obtain rfl : w4 = w41 := h9.symm
          clear h9
          go_wp2_with (at_make; go_must (refine wpl_make8 _ rfl (.tmp 64) (.tmp 64) rfl G rfl rfl (by omega) ?_))
          intro w5 HR5 HF5
          have HS5 := hid (wayS w4 w5 H4.out HR5.out HF5.out)
          clear HR5 HF5
          obtain ⟨e1, e2⟩ := (ws_send HWS2.out G).2 (by omega)
          rw [e1] at HS5
          have HWS3 := hid e2
          clear e1 e2 HWS2
          generalize sendS s2 64 (List.replicate G 0) = s3 at *
          have t6 : ¬ (F : Int) + (G : Int) ≤ 1048576 := by omega
          go_wp2_with fail
          refine HS5.out.mono ?_
          rintro e w6 ⟨rfl, h1⟩
          have H6 := hid h1
          clear h1 HS5
          obtain ⟨b1, b2, b3, b4, b5, b6⟩ := ws_bring HWS3.out (by omega)
          have HB6 := hid (H6.out.bring (by rw [b2]; omega) 64 1073741824)
          rw [b3, b1] at HB6
          have HU := hid (fun (W : World) (h : NI w W B (bringS s3 64 1073741824)) => h.under 64)
          rw [b5, b6] at HU
          have HM := hid (fun (W : World) (h : NI w W B (bringS s3 64 1073741824)) => h.moved)
          rw [b4] at HM
          clear b1 b2 b3 b4 b5 b6 H6 HWS3
          generalize bringS s3 64 1073741824 = s4 at *
          rw [Nat.min_eq_left hm] at *
          have t5 : (a : Int) ≤ (F : Int) := by omega
          go_wp2_with fail
          refine HB6.out.mono ?_
          rintro e w7 ⟨rfl, h1⟩
          have H7 := hid h1
          clear h1
          go_wp2_with fail
          refine (HU.out _ H7.out).mono ?_
          rintro e w8 ⟨rfl, h1, h9⟩
          have H8 := hid h1
          clear h1 h9
          go_wp2_with fail
          refine (HM.out _ H8.out).mono ?_
          rintro e w9 ⟨rfl, h1, h9⟩
          have H9 := hid h1
          clear h1 h9
          go_wp2_with fail
          refine (head_any _).mono ?_
          rintro e w10 ⟨rfl, h1⟩
          have H10 := hid (H9.out.fr.trans h1)
          clear h1
          go_wp2_with fail
          go_ret
          exact ⟨rfl, H10.out⟩
        · go_wp2_with fail
          refine (HW1.out _).mono ?_
          rintro e w41 ⟨rfl, h9⟩
          obtain rfl : w4 = w41 := h9.symm
          clear h9
          go_wp2_with (at_make; go_must (refine wpl_make8 _ rfl (.tmp 64) (.tmp 64) rfl G rfl rfl (by omega) ?_))
          intro w5 HR5 HF5
          have HS5 := hid (wayS w4 w5 H4.out HR5.out HF5.out)
          clear HR5 HF5
          obtain ⟨e1, e2⟩ := (ws_send HWS2.out G).2 (by omega)
          rw [e1] at HS5
          have HWS3 := hid e2
          clear e1 e2 HWS2
          generalize sendS s2 64 (List.replicate G 0) = s3 at *
          have t6 : ¬ (F : Int) + (G : Int) ≤ 1048576 := by omega
          go_wp2_with fail
          refine HS5.out.mono ?_
          rintro e w6 ⟨rfl, h1⟩
          have H6 := hid h1
          clear h1 HS5
          obtain ⟨b1, b2, b3, b4, b5, b6⟩ := ws_bring HWS3.out (by omega)
          have HB6 := hid (H6.out.bring (by rw [b2]; omega) 64 1073741824)
          rw [b3, b1] at HB6
          have HU := hid (fun (W : World) (h : NI w W B (bringS s3 64 1073741824)) => h.under 64)
          rw [b5, b6] at HU
          have HM := hid (fun (W : World) (h : NI w W B (bringS s3 64 1073741824)) => h.moved)
          rw [b4] at HM
          clear b1 b2 b3 b4 b5 b6 H6 HWS3
          generalize bringS s3 64 1073741824 = s4 at *
          rw [Nat.min_eq_right (show F ≤ a by omega)] at *
          have t5 : ¬ (a : Int) ≤ (F : Int) := by omega
          go_wp2_with fail
          refine HB6.out.mono ?_
          rintro e w7 ⟨rfl, h1⟩
          have H7 := hid h1
          clear h1
          go_wp2_with fail
          refine (HU.out _ H7.out).mono ?_
          rintro e w8 ⟨rfl, h1, h9⟩
          have H8 := hid h1
          clear h1 h9
          go_wp2_with fail
          refine (HM.out _ H8.out).mono ?_
          rintro e w9 ⟨rfl, h1, h9⟩
          have H9 := hid h1
          clear h1 h9
          go_wp2_with fail
          refine (head_any _).mono ?_
          rintro e w10 ⟨rfl, h1⟩
          have H10 := hid (H9.out.fr.trans h1)
          clear h1
          go_wp2_with fail
          go_ret
          exact ⟨rfl, H10.out⟩
  · obtain ⟨e1, e2⟩ := (ws_send HWS.out F).2 (by omega)
    rw [e1] at HS3
    have HWS2 := hid e2
    clear e1 e2 HWS
    generalize sendS s1 64 (List.replicate F 0) = s2 at *
    go_wp2_with fail
    refine HS3.out.mono ?_
    rintro e w4 ⟨rfl, h1⟩
    have H4 := hid h1
    clear h1 HS3
    have t1 : ¬ (F : Int) ≤ 1048576 := by omega
    obtain ⟨G, hG⟩ : ∃ G : Nat, (r : Int) + 1048575 = (G : Int) := ⟨r + 1048575, by omega⟩
    have t2 : ¬ (G : Int) < 0 := by omega
    have t3 : (r : Int) + 1048576 = (G : Int) + 1 := by omega
    have t31 : G ≤ 1048577 := by omega
    by_cases hr1 : r ≤ 1
    · go_wp2_with fail
      refine (HW1.out _).mono ?_
      rintro e w41 ⟨rfl, h9⟩
      obtain rfl : w4 = w41 := h9.symm
      clear h9
      go_wp2_with (at_make; go_must (refine wpl_make8 _ rfl (.tmp 64) (.tmp 64) rfl G rfl rfl (by omega) ?_))
      intro w5 HR5 HF5
      have HS5 := hid (wayS w4 w5 H4.out HR5.out HF5.out)
      clear HR5 HF5
      obtain ⟨e1, e2⟩ := (ws_send HWS2.out G).1 (by omega)
      rw [e1] at HS5
      rw [Nat.zero_add] at e2
      have HWS3 := hid e2
      clear e1 e2 HWS2
      generalize sendS s2 64 (List.replicate G 0) = s3 at *
      have hF3 : G ≤ 1048576 := by omega
      have hF4 : 131072 ≤ G := by omega
      have t6 : (G : Int) ≤ 1048576 := by omega
      go_wp2_with fail
      refine HS5.out.mono ?_
      rintro e w6 ⟨rfl, h1⟩
      have H6 := hid h1
      clear h1 HS5
      obtain ⟨b1, b2, b3, b4, b5, b6⟩ := ws_bring HWS3.out (by omega)
      have HB6 := hid (H6.out.bring (by rw [b2]; omega) 64 1073741824)
      rw [b3, b1] at HB6
      have HU := hid (fun (W : World) (h : NI w W B (bringS s3 64 1073741824)) => h.under 64)
      rw [b5, b6] at HU
      have HM := hid (fun (W : World) (h : NI w W B (bringS s3 64 1073741824)) => h.moved)
      rw [b4] at HM
      clear b1 b2 b3 b4 b5 b6 H6 HWS3
      generalize bringS s3 64 1073741824 = s4 at *
      rw [Nat.min_eq_left (show a ≤ G by omega)] at *
      have t5 : (a : Int) ≤ (G : Int) := by omega
      go_wp2_with fail
      refine HB6.out.mono ?_
      rintro e w7 ⟨rfl, h1⟩
      have H7 := hid h1
      clear h1
      go_wp2_with fail
      refine (HU.out _ H7.out).mono ?_
      rintro e w8 ⟨rfl, h1, h9⟩
      have H8 := hid h1
      clear h1 h9
      go_wp2_with fail
      refine (HM.out _ H8.out).mono ?_
      rintro e w9 ⟨rfl, h1, h9⟩
      have H9 := hid h1
      clear h1 h9
      go_wp2_with fail
      refine (head_any _).mono ?_
      rintro e w10 ⟨rfl, h1⟩
      have H10 := hid (H9.out.fr.trans h1)
      clear h1
      go_wp2_with fail
      go_ret
      exact ⟨rfl, H10.out⟩
    · go_wp2_with fail
      refine (HW1.out _).mono ?_
      rintro e w41 ⟨rfl, h9⟩
      obtain rfl : w4 = w41 := h9.symm
      clear h9
      go_wp2_with (at_make; go_must (refine wpl_make8 _ rfl (.tmp 64) (.tmp 64) rfl G rfl rfl (by omega) ?_))
      intro w5 HR5 HF5
      have HS5 := hid (wayS w4 w5 H4.out HR5.out HF5.out)
      clear HR5 HF5
      obtain ⟨e1, e2⟩ := (ws_send HWS2.out G).2 (by omega)
      rw [e1] at HS5
      have HWS3 := hid e2
      clear e1 e2 HWS2
      generalize sendS s2 64 (List.replicate G 0) = s3 at *
      have t6 : ¬ (G : Int) ≤ 1048576 := by omega
      have hA1 : 1 ≤ a := HQ1.out
      go_wp2_with fail
      refine HS5.out.mono ?_
      rintro e w6 ⟨rfl, h1⟩
      have H6 := hid h1
      clear h1 HS5
      obtain ⟨b1, b2, b3, b4, b5, b6⟩ := ws_bring HWS3.out (by omega)
      have HB6 := hid (H6.out.bring (by rw [b2]; omega) 64 1073741824)
      rw [b3, b1] at HB6
      have HU := hid (fun (W : World) (h : NI w W B (bringS s3 64 1073741824)) => h.under 64)
      rw [b5, b6] at HU
      have HM := hid (fun (W : World) (h : NI w W B (bringS s3 64 1073741824)) => h.moved)
      rw [b4] at HM
      clear b1 b2 b3 b4 b5 b6 H6 HWS3
      generalize bringS s3 64 1073741824 = s4 at *
      rw [Nat.min_eq_right (show 0 ≤ a by omega)] at *
      have t5 : ¬ (a : Int) ≤ 0 := by omega
      go_wp2_with fail
      refine HB6.out.mono ?_
      rintro e w7 ⟨rfl, h1⟩
      have H7 := hid h1
      clear h1
      go_wp2_with fail
      refine (HU.out _ H7.out).mono ?_
      rintro e w8 ⟨rfl, h1, h9⟩
      have H8 := hid h1
      clear h1 h9
      go_wp2_with fail
      refine (HM.out _ H8.out).mono ?_
      rintro e w9 ⟨rfl, h1, h9⟩
      have H9 := hid h1
      clear h1 h9
      go_wp2_with fail
      refine (head_any _).mono ?_
      rintro e w10 ⟨rfl, h1⟩
      have H10 := hid (H9.out.fr.trans h1)
      clear h1
      go_wp2_with fail
      go_ret
      exact ⟨rfl, H10.out⟩
end Go.Proofs.Ytljkbnjdciljfaa
