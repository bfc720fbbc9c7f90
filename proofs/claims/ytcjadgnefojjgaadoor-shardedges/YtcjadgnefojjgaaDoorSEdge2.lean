/- ShardEdges: the walk. -/
import Derived.Test.YtcjadgnefojjgaaDoorSEdge
namespace Go.Proofs.YtcjadgnefojjgaaDoor.S
open Go.RowKit G

theorem made_ze (n : Nat) : madeCells #[Value.int .u8 0] n = (by8 (List.replicate n 0)).toArray := by
  apply Array.ext'
  apply List.ext_getElem
  · simp [madeCells, by8]
  · intro i h1 h2
    simp [madeCells, Nat.mod_one, by8]
theorem make_ze (n : Nat) (hn : n ≤ 1000) (W : World) : (Instr.makeSlice 28 (.int .i64 (n : Int)) (.int .i64 (n : Int))).run Tryd.prog W = .ok (.slice (some ⟨W.heap.size, 0, none⟩) n n) (W.alloc (.cells (by8 (List.replicate n 0)).toArray 5)) := by
  rw [← made_ze]
  exact run_make_row' (P := Tryd.prog) 28 5 (.int .u8 0) 1 Tryd.underlying28 Tryd.info_u8 rfl .i64 .i64 n (by omega) (by omega) W
theorem conv_ze (n : Nat) (W : World) : (convert 28 9 (.slice (some ⟨W.heap.size, 0, none⟩) n n)).run Tryd.prog (W.alloc (.cells (by8 (List.replicate n 0)).toArray 5)) = .ok (.string (ze n)) (W.alloc (.cells (by8 (List.replicate n 0)).toArray 5)) := by
  refine run_str8 Tryd.underlying28 Tryd.underlying5 Tryd.underlying9 (xs := List.replicate n 0) (Or.inr ⟨_, n, by rw [List.length_replicate], ?_⟩)
  intro j u hj
  rw [Addr.add_lit, Nat.zero_add, cell_of_row _ W.heap.size j _ _ (0, 0) (heap_last _ _ _ rfl)]
  simpa using hj

theorem tell_nil (c : Cl) : tellA [] c 0 = a0 := by
  unfold tellA
  split
  · exact atE_nil 0
  · rfl

set_option maxHeartbeats 16000000 in
set_option maxRecDepth 100000 in
theorem edges_walk (a b s e : Int) (w : World) (hg : Gl w) : Calls Tryd.prog 4 #[.int .i64 a, .int .i64 b, .int .i64 s, .int .i64 e] w fun r w' => r = .returned (.bool true) ∧ Fr w w' (fun _ => False) := by
  have hbn := sh_nil
  have HN := hid (hnew 100 (by decide) (by decide) hg)
  have HGl := hid hg
  have HHd := hid (fun (W : World) (hf : Fr w W (fun _ => False)) => head_any W (hg.fr hf (fun h => h)))
  have HW1 := hid (fun W => within_any a 6 (by decide) (by decide) W)
  have HW2 := hid (fun W => within_any b 35 (by decide) (by decide) W)
  have HW3 := hid (fun W => within_any e 2 (by decide) (by decide) W)
  have HW4 := hid (fun W => within_any e 3 (by decide) (by decide) W)
  have q1 : 0 ≤ a % 6 := by omega
  have q2 : a % 6 < 6 := by omega
  obtain ⟨n, hn, hn34⟩ : ∃ n : Nat, b % 35 = (n : Int) ∧ n ≤ 34 := ⟨(b % 35).toNat, by omega, by omega⟩
  rw [hn] at HW2
  have q5 : -3 < s.tmod 3 := Int.lt_tmod_of_pos s (by decide)
  have q6 : s.tmod 3 < 3 := Int.tmod_lt_of_pos s (by decide)
  have q7 : 0 ≤ e % 3 := by omega
  have q8 : e % 3 < 3 := by omega
  generalize a % 6 = va at *
  generalize e % 3 = em at *
  have hmk := make_ze n (by omega)
  have hcv := conv_ze n
  have hpar : e % 2 = 0 ∨ e % 2 = 1 := by omega
  clear hn
  go_enter Tryd.func4, Tryd.ntmps4
  go_wp2_with fail
  refine HN.out.mono ?_
  rintro r w1 ⟨S, rfl, h1⟩
  have H1 := hid (show Hd w w1 S 100 [] from h1)
  clear h1 HN
  go_wp2_with fail
  refine (HW1.out _).mono ?_
  rintro r w2 ⟨rfl, hw⟩
  have hw := hw.symm
  subst hw
  go_wp2_with fail
  refine (HW2.out _).mono ?_
  rintro r w2 ⟨rfl, hw⟩
  have hw := hw.symm
  subst hw
  go_wp2_with fail
  refine (HW3.out _).mono ?_
  rintro r w2 ⟨rfl, hw⟩
  have hw := hw.symm
  subst hw
  rcases hpar with hp | hp
  all_goals rw [hp]
  all_goals clear hp
  all_goals go_wp2_with fail
  all_goals refine (HW4.out _).mono ?_
  all_goals rintro r w2 ⟨rfl, hw⟩
  all_goals have hw := hw.symm
  all_goals subst hw
  · obtain ⟨st, hst, hb1, hb2⟩ : ∃ st, 2305843009213693952 + s.tmod 3 = st ∧ -2305843009213693954 ≤ st ∧ st ≤ 2305843009213693954 := ⟨_, rfl, by omega, by omega⟩
    rw [hst]
    clear hst q5 q6
    generalize hv : va - 1 = v at *
    go_wp2_with fail
    · have hwt : wantE ⟨v, ze n, st⟩ (em + 1099511627776 - 1) = 23 := by
        unfold wantE mayE
        dsimp only
        rw [ze_size]
        repeat' split
        all_goals omega
      have hne : wantE ⟨v, ze n, st⟩ (em + 1099511627776 - 1) ≠ 0 := by rw [hwt]; decide
      have HP := hid (fun (q : A4) (hq : fit4 q) (W : World) (h : Hd w W S 100 []) => (show Calls Tryd.prog 8 #[.pointer (some ⟨S, 0, none⟩), .int .i64 (em + 1099511627776 - 1), .agg #[.int .i64 v, .string (ze n), .int .i64 st, .int .i64 q.c, .int .i64 q.s, .int .i64 q.m, .int .i64 q.x]] W fun r w' => r = .returned (.int .i64 (wantE ⟨v, ze n, st⟩ (em + 1099511627776 - 1))) ∧ Hd w w' S 100 [] ∧ Kp W w' from by
        have h5 := hput (em + 1099511627776 - 1) ⟨v, ze n, st⟩ q W h (by rw [ze_size]; omega) hq
        rw [(want_put hne 100 q).1, (want_put hne 100 q).2] at h5
        exact h5))
      have HKl := hid (fun (W : World) (h : Hd w W S 100 []) => (show Calls Tryd.prog 10 #[.pointer (some ⟨S, 0, none⟩), .int .i64 (em + 1099511627776 - 1), .agg #[.int .i64 v, .string (ze n), .int .i64 st]] W fun r w' => r = .returned (.int .i64 (wantE ⟨v, ze n, st⟩ (em + 1099511627776 - 1))) ∧ Hd w w' S 100 [] ∧ Kp W w' from by
        have h5 := hkill (em + 1099511627776 - 1) ⟨v, ze n, st⟩ W h (by rw [ze_size]; omega)
        rw [(want_kill hne).1, (want_kill hne).2] at h5
        exact h5))
      have HP1 := hid (HP.out (oneA 7) (oneA_fit (by unfold fits; decide)))
      have HP2 := hid (HP.out ⟨1, 2, 3, 3⟩ (by unfold fit4 fits; decide))
      have HP3 := hid (HP.out a0 (by unfold fit4 fits a0; decide))
      unfold oneA at HP1
      unfold a0 at HP3
      dsimp only at HP1 HP2 HP3
      rw [hwt] at HP1 HP2 HP3 HKl
      have HGe := hid (fun (W : World) (h : Hd w W S 100 []) => (show Calls Tryd.prog 12 #[.pointer (some ⟨S, 0, none⟩), .agg #[.int .i64 v, .string (ze n), .int .i64 st]] W fun r w' => r = .returned (.agg #[.int .i64 0, .int .i64 0, .int .i64 0, .int .i64 0]) ∧ Fr W w' (fun _ => False) from by
        obtain ⟨X, h1⟩ := h.sh
        have h5 := get_any ⟨v, ze n, st⟩ W h1 (by rw [ze_size]; omega)
        rw [tell_nil] at h5
        exact h5))
      have HU := hid (fun (W : World) (h : Hd w W S 100 []) => (show Calls Tryd.prog 11 #[.pointer (some ⟨S, 0, none⟩)] W fun r w' => r = .returned (.int .i64 0) ∧ Fr W w' (fun _ => False) from by
        obtain ⟨X, h1⟩ := h.sh
        exact unitsS_any W h1))
      have HCe := hid (fun (W : World) (h : Hd w W S 100 []) => (show Calls Tryd.prog 13 #[.pointer (some ⟨S, 0, none⟩)] W fun r w' => r = .returned (.int .i64 0) ∧ w' = W from by
        obtain ⟨X, h1⟩ := h.sh
        exact cellsS_any W h1))
      clear hwt hne HP
      have H2 := hid ((H1.out.step (alloc_fr w1 (.cells (by8 (List.replicate n 0)).toArray 5) (fun _ => False))).step (alloc_fr _ (.cells #[.int .i64 v, .string (ze n), .int .i64 st] 30) (fun _ => False)))
      have HB := hid (heap_last (w1.alloc (.cells (by8 (List.replicate n 0)).toArray 5)) (.cells #[.int .i64 v, .string (ze n), .int .i64 st] 30) (w1.heap.size + 1) (by simp))
      generalize (w1.alloc (.cells (by8 (List.replicate n 0)).toArray 5)).alloc (.cells #[.int .i64 v, .string (ze n), .int .i64 st] 30) = w3 at *
      have HK := hid (fun (W' : World) (hk : Kp w3 W') => (show (W'.cell? ⟨w1.heap.size + 1, 0, none⟩ = some (.int .i64 v) ∧ W'.cell? ⟨w1.heap.size + 1, 1, none⟩ = some (.string (ze n)) ∧ W'.cell? ⟨w1.heap.size + 1, 2, none⟩ = some (.int .i64 st)) ∧ w1.heap.size + 1 < W'.heap.size from ⟨cells3 (hk.block HB.out (by unfold okT; decide)), Nat.lt_of_lt_of_le (lt_of_block HB.out) hk.1⟩))
      have HF := hid (Fr.refl w3 (fun _ => False))
      have HKp := hid (Kp.refl w3)
      obtain ⟨⟨k0, k1, k2⟩, hbl⟩ := HK.out w3 (Kp.refl _)
      go_region_held3 (fun W' => Hid (Kp w3 W') ∧ W'.cell? ⟨w1.heap.size + 1, 0, none⟩ = some (.int .i64 v) ∧ W'.cell? ⟨w1.heap.size + 1, 1, none⟩ = some (.string (ze n)) ∧ W'.cell? ⟨w1.heap.size + 1, 2, none⟩ = some (.int .i64 st))
        ((refine (fun h => ⟨h, (HK.out _ h).1⟩ : Kp w3 _ → _) ?_; first | exact HKp.out | exact Kp.of (by repeat (first | with_reducible exact HF.out | with_reducible exact Fr.refl _ _ | with_reducible apply Fr.drew | with_reducible apply Fr.alloc))))
        ((first
          | (go_at_call 9; refine (one_any 7 _).mono ?_; rintro r w4 ⟨rfl, hf⟩; have HF := hid (Fr.trans (a := w3) (by repeat (first | with_reducible exact HF.out | with_reducible exact Fr.refl _ _ | with_reducible apply Fr.drew | with_reducible apply Fr.alloc)) hf); have HKp := hid (Kp.of HF.out); clear hf)
          | (go_at_call 8; refine (HP1.out _ (H2.out.step (by repeat (first | with_reducible exact HF.out | with_reducible exact Fr.refl _ _ | with_reducible apply Fr.drew | with_reducible apply Fr.alloc)))).mono ?_; rintro r w5 ⟨rfl, h5, hk5⟩; have H5 := hid h5; have HKp := hid ((Kp.of HF.out).trans ((Kp.of (by repeat (first | with_reducible exact Fr.refl _ _ | with_reducible apply Fr.drew))).trans hk5)); clear h5 hk5)))
      obtain ⟨⟨k0, k1, k2⟩, hbl⟩ := HK.out _ HKp.out
      go_wp2_with fail
      refine (HP2.out _ H5.out).mono ?_
      rintro r w6 ⟨rfl, h6, hk6⟩
      have H6 := hid h6
      have HKp := hid (HKp.out.trans hk6)
      clear h6 hk6
      obtain ⟨⟨k0, k1, k2⟩, hbl⟩ := HK.out _ HKp.out
      go_wp2_with fail
      refine (HP3.out _ H6.out).mono ?_
      rintro r w7 ⟨rfl, h7, hk7⟩
      have H7 := hid h7
      have HKp := hid (HKp.out.trans hk7)
      clear h7 hk7
      obtain ⟨⟨k0, k1, k2⟩, hbl⟩ := HK.out _ HKp.out
      go_wp2_with fail
      refine (HKl.out _ H7.out).mono ?_
      rintro r w8 ⟨rfl, h8, hk8⟩
      have H8 := hid h8
      have HKp := hid (HKp.out.trans hk8)
      clear h8 hk8
      obtain ⟨⟨k0, k1, k2⟩, hbl⟩ := HK.out _ HKp.out
      go_wp2_with fail
      refine (HU.out _ H8.out).mono ?_
      rintro r w9 ⟨rfl, hf⟩
      have HF9 := hid hf
      have HKp := hid (HKp.out.trans (Kp.of hf))
      clear hf
      obtain ⟨⟨k0, k1, k2⟩, hbl⟩ := HK.out _ HKp.out
      go_wp2_with fail
      refine (HGe.out _ (H8.out.step HF9.out)).mono ?_
      rintro r w10 ⟨rfl, hf⟩
      have HF10 := hid (HF9.out.trans hf)
      clear hf
      go_wp2_with fail
      refine (HCe.out _ (H8.out.step HF10.out)).mono ?_
      rintro r w11 ⟨rfl, hw⟩
      have hw := hw.symm
      subst hw
      go_wp2_with fail
      refine (HHd.out _ (H8.out.fr.trans HF10.out)).mono ?_
      rintro r w12 ⟨rfl, hf⟩
      have HF12 := hid (H8.out.fr.trans (HF10.out.trans hf))
      clear hf
      go_wp2_with fail
      go_ret
      exact ⟨rfl, HF12.out⟩
    · have hwt : wantE ⟨v, ze n, st⟩ (em + 1099511627776 - 1) = 21 := by
        unfold wantE mayE
        dsimp only
        rw [ze_size]
        repeat' split
        all_goals omega
      have hne : wantE ⟨v, ze n, st⟩ (em + 1099511627776 - 1) ≠ 0 := by rw [hwt]; decide
      have HP := hid (fun (q : A4) (hq : fit4 q) (W : World) (h : Hd w W S 100 []) => (show Calls Tryd.prog 8 #[.pointer (some ⟨S, 0, none⟩), .int .i64 (em + 1099511627776 - 1), .agg #[.int .i64 v, .string (ze n), .int .i64 st, .int .i64 q.c, .int .i64 q.s, .int .i64 q.m, .int .i64 q.x]] W fun r w' => r = .returned (.int .i64 (wantE ⟨v, ze n, st⟩ (em + 1099511627776 - 1))) ∧ Hd w w' S 100 [] ∧ Kp W w' from by
        have h5 := hput (em + 1099511627776 - 1) ⟨v, ze n, st⟩ q W h (by rw [ze_size]; omega) hq
        rw [(want_put hne 100 q).1, (want_put hne 100 q).2] at h5
        exact h5))
      have HKl := hid (fun (W : World) (h : Hd w W S 100 []) => (show Calls Tryd.prog 10 #[.pointer (some ⟨S, 0, none⟩), .int .i64 (em + 1099511627776 - 1), .agg #[.int .i64 v, .string (ze n), .int .i64 st]] W fun r w' => r = .returned (.int .i64 (wantE ⟨v, ze n, st⟩ (em + 1099511627776 - 1))) ∧ Hd w w' S 100 [] ∧ Kp W w' from by
        have h5 := hkill (em + 1099511627776 - 1) ⟨v, ze n, st⟩ W h (by rw [ze_size]; omega)
        rw [(want_kill hne).1, (want_kill hne).2] at h5
        exact h5))
      have HP1 := hid (HP.out (oneA 7) (oneA_fit (by unfold fits; decide)))
      have HP2 := hid (HP.out ⟨1, 2, 3, 3⟩ (by unfold fit4 fits; decide))
      have HP3 := hid (HP.out a0 (by unfold fit4 fits a0; decide))
      unfold oneA at HP1
      unfold a0 at HP3
      dsimp only at HP1 HP2 HP3
      rw [hwt] at HP1 HP2 HP3 HKl
      have HGe := hid (fun (W : World) (h : Hd w W S 100 []) => (show Calls Tryd.prog 12 #[.pointer (some ⟨S, 0, none⟩), .agg #[.int .i64 v, .string (ze n), .int .i64 st]] W fun r w' => r = .returned (.agg #[.int .i64 0, .int .i64 0, .int .i64 0, .int .i64 0]) ∧ Fr W w' (fun _ => False) from by
        obtain ⟨X, h1⟩ := h.sh
        have h5 := get_any ⟨v, ze n, st⟩ W h1 (by rw [ze_size]; omega)
        rw [tell_nil] at h5
        exact h5))
      have HU := hid (fun (W : World) (h : Hd w W S 100 []) => (show Calls Tryd.prog 11 #[.pointer (some ⟨S, 0, none⟩)] W fun r w' => r = .returned (.int .i64 0) ∧ Fr W w' (fun _ => False) from by
        obtain ⟨X, h1⟩ := h.sh
        exact unitsS_any W h1))
      have HCe := hid (fun (W : World) (h : Hd w W S 100 []) => (show Calls Tryd.prog 13 #[.pointer (some ⟨S, 0, none⟩)] W fun r w' => r = .returned (.int .i64 0) ∧ w' = W from by
        obtain ⟨X, h1⟩ := h.sh
        exact cellsS_any W h1))
      clear hwt hne HP
      have H2 := hid ((H1.out.step (alloc_fr w1 (.cells (by8 (List.replicate n 0)).toArray 5) (fun _ => False))).step (alloc_fr _ (.cells #[.int .i64 v, .string (ze n), .int .i64 st] 30) (fun _ => False)))
      have HB := hid (heap_last (w1.alloc (.cells (by8 (List.replicate n 0)).toArray 5)) (.cells #[.int .i64 v, .string (ze n), .int .i64 st] 30) (w1.heap.size + 1) (by simp))
      generalize (w1.alloc (.cells (by8 (List.replicate n 0)).toArray 5)).alloc (.cells #[.int .i64 v, .string (ze n), .int .i64 st] 30) = w3 at *
      have HK := hid (fun (W' : World) (hk : Kp w3 W') => (show (W'.cell? ⟨w1.heap.size + 1, 0, none⟩ = some (.int .i64 v) ∧ W'.cell? ⟨w1.heap.size + 1, 1, none⟩ = some (.string (ze n)) ∧ W'.cell? ⟨w1.heap.size + 1, 2, none⟩ = some (.int .i64 st)) ∧ w1.heap.size + 1 < W'.heap.size from ⟨cells3 (hk.block HB.out (by unfold okT; decide)), Nat.lt_of_lt_of_le (lt_of_block HB.out) hk.1⟩))
      have HF := hid (Fr.refl w3 (fun _ => False))
      have HKp := hid (Kp.refl w3)
      obtain ⟨⟨k0, k1, k2⟩, hbl⟩ := HK.out w3 (Kp.refl _)
      go_region_held3 (fun W' => Hid (Kp w3 W') ∧ W'.cell? ⟨w1.heap.size + 1, 0, none⟩ = some (.int .i64 v) ∧ W'.cell? ⟨w1.heap.size + 1, 1, none⟩ = some (.string (ze n)) ∧ W'.cell? ⟨w1.heap.size + 1, 2, none⟩ = some (.int .i64 st))
        ((refine (fun h => ⟨h, (HK.out _ h).1⟩ : Kp w3 _ → _) ?_; first | exact HKp.out | exact Kp.of (by repeat (first | with_reducible exact HF.out | with_reducible exact Fr.refl _ _ | with_reducible apply Fr.drew | with_reducible apply Fr.alloc))))
        ((first
          | (go_at_call 9; refine (one_any 7 _).mono ?_; rintro r w4 ⟨rfl, hf⟩; have HF := hid (Fr.trans (a := w3) (by repeat (first | with_reducible exact HF.out | with_reducible exact Fr.refl _ _ | with_reducible apply Fr.drew | with_reducible apply Fr.alloc)) hf); have HKp := hid (Kp.of HF.out); clear hf)
          | (go_at_call 8; refine (HP1.out _ (H2.out.step (by repeat (first | with_reducible exact HF.out | with_reducible exact Fr.refl _ _ | with_reducible apply Fr.drew | with_reducible apply Fr.alloc)))).mono ?_; rintro r w5 ⟨rfl, h5, hk5⟩; have H5 := hid h5; have HKp := hid ((Kp.of HF.out).trans ((Kp.of (by repeat (first | with_reducible exact Fr.refl _ _ | with_reducible apply Fr.drew))).trans hk5)); clear h5 hk5)))
      obtain ⟨⟨k0, k1, k2⟩, hbl⟩ := HK.out _ HKp.out
      go_wp2_with fail
      refine (HP2.out _ H5.out).mono ?_
      rintro r w6 ⟨rfl, h6, hk6⟩
      have H6 := hid h6
      have HKp := hid (HKp.out.trans hk6)
      clear h6 hk6
      obtain ⟨⟨k0, k1, k2⟩, hbl⟩ := HK.out _ HKp.out
      go_wp2_with fail
      refine (HP3.out _ H6.out).mono ?_
      rintro r w7 ⟨rfl, h7, hk7⟩
      have H7 := hid h7
      have HKp := hid (HKp.out.trans hk7)
      clear h7 hk7
      obtain ⟨⟨k0, k1, k2⟩, hbl⟩ := HK.out _ HKp.out
      go_wp2_with fail
      refine (HKl.out _ H7.out).mono ?_
      rintro r w8 ⟨rfl, h8, hk8⟩
      have H8 := hid h8
      have HKp := hid (HKp.out.trans hk8)
      clear h8 hk8
      obtain ⟨⟨k0, k1, k2⟩, hbl⟩ := HK.out _ HKp.out
      go_wp2_with fail
      refine (HU.out _ H8.out).mono ?_
      rintro r w9 ⟨rfl, hf⟩
      have HF9 := hid hf
      have HKp := hid (HKp.out.trans (Kp.of hf))
      clear hf
      obtain ⟨⟨k0, k1, k2⟩, hbl⟩ := HK.out _ HKp.out
      go_wp2_with fail
      refine (HGe.out _ (H8.out.step HF9.out)).mono ?_
      rintro r w10 ⟨rfl, hf⟩
      have HF10 := hid (HF9.out.trans hf)
      clear hf
      go_wp2_with fail
      refine (HCe.out _ (H8.out.step HF10.out)).mono ?_
      rintro r w11 ⟨rfl, hw⟩
      have hw := hw.symm
      subst hw
      go_wp2_with fail
      refine (HHd.out _ (H8.out.fr.trans HF10.out)).mono ?_
      rintro r w12 ⟨rfl, hf⟩
      have HF12 := hid (H8.out.fr.trans (HF10.out.trans hf))
      clear hf
      go_wp2_with fail
      go_ret
      exact ⟨rfl, HF12.out⟩
    · have hwt : wantE ⟨v, ze n, st⟩ (em + 1099511627776 - 1) = 22 := by
        unfold wantE mayE
        dsimp only
        rw [ze_size]
        repeat' split
        all_goals omega
      have hne : wantE ⟨v, ze n, st⟩ (em + 1099511627776 - 1) ≠ 0 := by rw [hwt]; decide
      have HP := hid (fun (q : A4) (hq : fit4 q) (W : World) (h : Hd w W S 100 []) => (show Calls Tryd.prog 8 #[.pointer (some ⟨S, 0, none⟩), .int .i64 (em + 1099511627776 - 1), .agg #[.int .i64 v, .string (ze n), .int .i64 st, .int .i64 q.c, .int .i64 q.s, .int .i64 q.m, .int .i64 q.x]] W fun r w' => r = .returned (.int .i64 (wantE ⟨v, ze n, st⟩ (em + 1099511627776 - 1))) ∧ Hd w w' S 100 [] ∧ Kp W w' from by
        have h5 := hput (em + 1099511627776 - 1) ⟨v, ze n, st⟩ q W h (by rw [ze_size]; omega) hq
        rw [(want_put hne 100 q).1, (want_put hne 100 q).2] at h5
        exact h5))
      have HKl := hid (fun (W : World) (h : Hd w W S 100 []) => (show Calls Tryd.prog 10 #[.pointer (some ⟨S, 0, none⟩), .int .i64 (em + 1099511627776 - 1), .agg #[.int .i64 v, .string (ze n), .int .i64 st]] W fun r w' => r = .returned (.int .i64 (wantE ⟨v, ze n, st⟩ (em + 1099511627776 - 1))) ∧ Hd w w' S 100 [] ∧ Kp W w' from by
        have h5 := hkill (em + 1099511627776 - 1) ⟨v, ze n, st⟩ W h (by rw [ze_size]; omega)
        rw [(want_kill hne).1, (want_kill hne).2] at h5
        exact h5))
      have HP1 := hid (HP.out (oneA 7) (oneA_fit (by unfold fits; decide)))
      have HP2 := hid (HP.out ⟨1, 2, 3, 3⟩ (by unfold fit4 fits; decide))
      have HP3 := hid (HP.out a0 (by unfold fit4 fits a0; decide))
      unfold oneA at HP1
      unfold a0 at HP3
      dsimp only at HP1 HP2 HP3
      rw [hwt] at HP1 HP2 HP3 HKl
      have HGe := hid (fun (W : World) (h : Hd w W S 100 []) => (show Calls Tryd.prog 12 #[.pointer (some ⟨S, 0, none⟩), .agg #[.int .i64 v, .string (ze n), .int .i64 st]] W fun r w' => r = .returned (.agg #[.int .i64 0, .int .i64 0, .int .i64 0, .int .i64 0]) ∧ Fr W w' (fun _ => False) from by
        obtain ⟨X, h1⟩ := h.sh
        have h5 := get_any ⟨v, ze n, st⟩ W h1 (by rw [ze_size]; omega)
        rw [tell_nil] at h5
        exact h5))
      have HU := hid (fun (W : World) (h : Hd w W S 100 []) => (show Calls Tryd.prog 11 #[.pointer (some ⟨S, 0, none⟩)] W fun r w' => r = .returned (.int .i64 0) ∧ Fr W w' (fun _ => False) from by
        obtain ⟨X, h1⟩ := h.sh
        exact unitsS_any W h1))
      have HCe := hid (fun (W : World) (h : Hd w W S 100 []) => (show Calls Tryd.prog 13 #[.pointer (some ⟨S, 0, none⟩)] W fun r w' => r = .returned (.int .i64 0) ∧ w' = W from by
        obtain ⟨X, h1⟩ := h.sh
        exact cellsS_any W h1))
      clear hwt hne HP
      have H2 := hid ((H1.out.step (alloc_fr w1 (.cells (by8 (List.replicate n 0)).toArray 5) (fun _ => False))).step (alloc_fr _ (.cells #[.int .i64 v, .string (ze n), .int .i64 st] 30) (fun _ => False)))
      have HB := hid (heap_last (w1.alloc (.cells (by8 (List.replicate n 0)).toArray 5)) (.cells #[.int .i64 v, .string (ze n), .int .i64 st] 30) (w1.heap.size + 1) (by simp))
      generalize (w1.alloc (.cells (by8 (List.replicate n 0)).toArray 5)).alloc (.cells #[.int .i64 v, .string (ze n), .int .i64 st] 30) = w3 at *
      have HK := hid (fun (W' : World) (hk : Kp w3 W') => (show (W'.cell? ⟨w1.heap.size + 1, 0, none⟩ = some (.int .i64 v) ∧ W'.cell? ⟨w1.heap.size + 1, 1, none⟩ = some (.string (ze n)) ∧ W'.cell? ⟨w1.heap.size + 1, 2, none⟩ = some (.int .i64 st)) ∧ w1.heap.size + 1 < W'.heap.size from ⟨cells3 (hk.block HB.out (by unfold okT; decide)), Nat.lt_of_lt_of_le (lt_of_block HB.out) hk.1⟩))
      have HF := hid (Fr.refl w3 (fun _ => False))
      have HKp := hid (Kp.refl w3)
      obtain ⟨⟨k0, k1, k2⟩, hbl⟩ := HK.out w3 (Kp.refl _)
      go_region_held3 (fun W' => Hid (Kp w3 W') ∧ W'.cell? ⟨w1.heap.size + 1, 0, none⟩ = some (.int .i64 v) ∧ W'.cell? ⟨w1.heap.size + 1, 1, none⟩ = some (.string (ze n)) ∧ W'.cell? ⟨w1.heap.size + 1, 2, none⟩ = some (.int .i64 st))
        ((refine (fun h => ⟨h, (HK.out _ h).1⟩ : Kp w3 _ → _) ?_; first | exact HKp.out | exact Kp.of (by repeat (first | with_reducible exact HF.out | with_reducible exact Fr.refl _ _ | with_reducible apply Fr.drew | with_reducible apply Fr.alloc))))
        ((first
          | (go_at_call 9; refine (one_any 7 _).mono ?_; rintro r w4 ⟨rfl, hf⟩; have HF := hid (Fr.trans (a := w3) (by repeat (first | with_reducible exact HF.out | with_reducible exact Fr.refl _ _ | with_reducible apply Fr.drew | with_reducible apply Fr.alloc)) hf); have HKp := hid (Kp.of HF.out); clear hf)
          | (go_at_call 8; refine (HP1.out _ (H2.out.step (by repeat (first | with_reducible exact HF.out | with_reducible exact Fr.refl _ _ | with_reducible apply Fr.drew | with_reducible apply Fr.alloc)))).mono ?_; rintro r w5 ⟨rfl, h5, hk5⟩; have H5 := hid h5; have HKp := hid ((Kp.of HF.out).trans ((Kp.of (by repeat (first | with_reducible exact Fr.refl _ _ | with_reducible apply Fr.drew))).trans hk5)); clear h5 hk5)))
      obtain ⟨⟨k0, k1, k2⟩, hbl⟩ := HK.out _ HKp.out
      go_wp2_with fail
      refine (HP2.out _ H5.out).mono ?_
      rintro r w6 ⟨rfl, h6, hk6⟩
      have H6 := hid h6
      have HKp := hid (HKp.out.trans hk6)
      clear h6 hk6
      obtain ⟨⟨k0, k1, k2⟩, hbl⟩ := HK.out _ HKp.out
      go_wp2_with fail
      refine (HP3.out _ H6.out).mono ?_
      rintro r w7 ⟨rfl, h7, hk7⟩
      have H7 := hid h7
      have HKp := hid (HKp.out.trans hk7)
      clear h7 hk7
      obtain ⟨⟨k0, k1, k2⟩, hbl⟩ := HK.out _ HKp.out
      go_wp2_with fail
      refine (HKl.out _ H7.out).mono ?_
      rintro r w8 ⟨rfl, h8, hk8⟩
      have H8 := hid h8
      have HKp := hid (HKp.out.trans hk8)
      clear h8 hk8
      obtain ⟨⟨k0, k1, k2⟩, hbl⟩ := HK.out _ HKp.out
      go_wp2_with fail
      refine (HU.out _ H8.out).mono ?_
      rintro r w9 ⟨rfl, hf⟩
      have HF9 := hid hf
      have HKp := hid (HKp.out.trans (Kp.of hf))
      clear hf
      obtain ⟨⟨k0, k1, k2⟩, hbl⟩ := HK.out _ HKp.out
      go_wp2_with fail
      refine (HGe.out _ (H8.out.step HF9.out)).mono ?_
      rintro r w10 ⟨rfl, hf⟩
      have HF10 := hid (HF9.out.trans hf)
      clear hf
      go_wp2_with fail
      refine (HCe.out _ (H8.out.step HF10.out)).mono ?_
      rintro r w11 ⟨rfl, hw⟩
      have hw := hw.symm
      subst hw
      go_wp2_with fail
      refine (HHd.out _ (H8.out.fr.trans HF10.out)).mono ?_
      rintro r w12 ⟨rfl, hf⟩
      have HF12 := hid (H8.out.fr.trans (HF10.out.trans hf))
      clear hf
      go_wp2_with fail
      go_ret
      exact ⟨rfl, HF12.out⟩
    · have hwt : wantE ⟨v, ze n, st⟩ (em + 1099511627776 - 1) = 1 := by
        unfold wantE mayE
        dsimp only
        rw [ze_size]
        repeat' split
        all_goals omega
      have hne : wantE ⟨v, ze n, st⟩ (em + 1099511627776 - 1) ≠ 0 := by rw [hwt]; decide
      have HP := hid (fun (q : A4) (hq : fit4 q) (W : World) (h : Hd w W S 100 []) => (show Calls Tryd.prog 8 #[.pointer (some ⟨S, 0, none⟩), .int .i64 (em + 1099511627776 - 1), .agg #[.int .i64 v, .string (ze n), .int .i64 st, .int .i64 q.c, .int .i64 q.s, .int .i64 q.m, .int .i64 q.x]] W fun r w' => r = .returned (.int .i64 (wantE ⟨v, ze n, st⟩ (em + 1099511627776 - 1))) ∧ Hd w w' S 100 [] ∧ Kp W w' from by
        have h5 := hput (em + 1099511627776 - 1) ⟨v, ze n, st⟩ q W h (by rw [ze_size]; omega) hq
        rw [(want_put hne 100 q).1, (want_put hne 100 q).2] at h5
        exact h5))
      have HKl := hid (fun (W : World) (h : Hd w W S 100 []) => (show Calls Tryd.prog 10 #[.pointer (some ⟨S, 0, none⟩), .int .i64 (em + 1099511627776 - 1), .agg #[.int .i64 v, .string (ze n), .int .i64 st]] W fun r w' => r = .returned (.int .i64 (wantE ⟨v, ze n, st⟩ (em + 1099511627776 - 1))) ∧ Hd w w' S 100 [] ∧ Kp W w' from by
        have h5 := hkill (em + 1099511627776 - 1) ⟨v, ze n, st⟩ W h (by rw [ze_size]; omega)
        rw [(want_kill hne).1, (want_kill hne).2] at h5
        exact h5))
      have HP1 := hid (HP.out (oneA 7) (oneA_fit (by unfold fits; decide)))
      have HP2 := hid (HP.out ⟨1, 2, 3, 3⟩ (by unfold fit4 fits; decide))
      have HP3 := hid (HP.out a0 (by unfold fit4 fits a0; decide))
      unfold oneA at HP1
      unfold a0 at HP3
      dsimp only at HP1 HP2 HP3
      rw [hwt] at HP1 HP2 HP3 HKl
      have HGe := hid (fun (W : World) (h : Hd w W S 100 []) => (show Calls Tryd.prog 12 #[.pointer (some ⟨S, 0, none⟩), .agg #[.int .i64 v, .string (ze n), .int .i64 st]] W fun r w' => r = .returned (.agg #[.int .i64 0, .int .i64 0, .int .i64 0, .int .i64 0]) ∧ Fr W w' (fun _ => False) from by
        obtain ⟨X, h1⟩ := h.sh
        have h5 := get_any ⟨v, ze n, st⟩ W h1 (by rw [ze_size]; omega)
        rw [tell_nil] at h5
        exact h5))
      have HU := hid (fun (W : World) (h : Hd w W S 100 []) => (show Calls Tryd.prog 11 #[.pointer (some ⟨S, 0, none⟩)] W fun r w' => r = .returned (.int .i64 0) ∧ Fr W w' (fun _ => False) from by
        obtain ⟨X, h1⟩ := h.sh
        exact unitsS_any W h1))
      have HCe := hid (fun (W : World) (h : Hd w W S 100 []) => (show Calls Tryd.prog 13 #[.pointer (some ⟨S, 0, none⟩)] W fun r w' => r = .returned (.int .i64 0) ∧ w' = W from by
        obtain ⟨X, h1⟩ := h.sh
        exact cellsS_any W h1))
      clear hwt hne HP
      have H2 := hid ((H1.out.step (alloc_fr w1 (.cells (by8 (List.replicate n 0)).toArray 5) (fun _ => False))).step (alloc_fr _ (.cells #[.int .i64 v, .string (ze n), .int .i64 st] 30) (fun _ => False)))
      have HB := hid (heap_last (w1.alloc (.cells (by8 (List.replicate n 0)).toArray 5)) (.cells #[.int .i64 v, .string (ze n), .int .i64 st] 30) (w1.heap.size + 1) (by simp))
      generalize (w1.alloc (.cells (by8 (List.replicate n 0)).toArray 5)).alloc (.cells #[.int .i64 v, .string (ze n), .int .i64 st] 30) = w3 at *
      have HK := hid (fun (W' : World) (hk : Kp w3 W') => (show (W'.cell? ⟨w1.heap.size + 1, 0, none⟩ = some (.int .i64 v) ∧ W'.cell? ⟨w1.heap.size + 1, 1, none⟩ = some (.string (ze n)) ∧ W'.cell? ⟨w1.heap.size + 1, 2, none⟩ = some (.int .i64 st)) ∧ w1.heap.size + 1 < W'.heap.size from ⟨cells3 (hk.block HB.out (by unfold okT; decide)), Nat.lt_of_lt_of_le (lt_of_block HB.out) hk.1⟩))
      have HF := hid (Fr.refl w3 (fun _ => False))
      have HKp := hid (Kp.refl w3)
      obtain ⟨⟨k0, k1, k2⟩, hbl⟩ := HK.out w3 (Kp.refl _)
      go_region_held3 (fun W' => Hid (Kp w3 W') ∧ W'.cell? ⟨w1.heap.size + 1, 0, none⟩ = some (.int .i64 v) ∧ W'.cell? ⟨w1.heap.size + 1, 1, none⟩ = some (.string (ze n)) ∧ W'.cell? ⟨w1.heap.size + 1, 2, none⟩ = some (.int .i64 st))
        ((refine (fun h => ⟨h, (HK.out _ h).1⟩ : Kp w3 _ → _) ?_; first | exact HKp.out | exact Kp.of (by repeat (first | with_reducible exact HF.out | with_reducible exact Fr.refl _ _ | with_reducible apply Fr.drew | with_reducible apply Fr.alloc))))
        ((first
          | (go_at_call 9; refine (one_any 7 _).mono ?_; rintro r w4 ⟨rfl, hf⟩; have HF := hid (Fr.trans (a := w3) (by repeat (first | with_reducible exact HF.out | with_reducible exact Fr.refl _ _ | with_reducible apply Fr.drew | with_reducible apply Fr.alloc)) hf); have HKp := hid (Kp.of HF.out); clear hf)
          | (go_at_call 8; refine (HP1.out _ (H2.out.step (by repeat (first | with_reducible exact HF.out | with_reducible exact Fr.refl _ _ | with_reducible apply Fr.drew | with_reducible apply Fr.alloc)))).mono ?_; rintro r w5 ⟨rfl, h5, hk5⟩; have H5 := hid h5; have HKp := hid ((Kp.of HF.out).trans ((Kp.of (by repeat (first | with_reducible exact Fr.refl _ _ | with_reducible apply Fr.drew))).trans hk5)); clear h5 hk5)))
      obtain ⟨⟨k0, k1, k2⟩, hbl⟩ := HK.out _ HKp.out
      go_wp2_with fail
      refine (HP2.out _ H5.out).mono ?_
      rintro r w6 ⟨rfl, h6, hk6⟩
      have H6 := hid h6
      have HKp := hid (HKp.out.trans hk6)
      clear h6 hk6
      obtain ⟨⟨k0, k1, k2⟩, hbl⟩ := HK.out _ HKp.out
      go_wp2_with fail
      refine (HP3.out _ H6.out).mono ?_
      rintro r w7 ⟨rfl, h7, hk7⟩
      have H7 := hid h7
      have HKp := hid (HKp.out.trans hk7)
      clear h7 hk7
      obtain ⟨⟨k0, k1, k2⟩, hbl⟩ := HK.out _ HKp.out
      go_wp2_with fail
      refine (HKl.out _ H7.out).mono ?_
      rintro r w8 ⟨rfl, h8, hk8⟩
      have H8 := hid h8
      have HKp := hid (HKp.out.trans hk8)
      clear h8 hk8
      obtain ⟨⟨k0, k1, k2⟩, hbl⟩ := HK.out _ HKp.out
      go_wp2_with fail
      refine (HU.out _ H8.out).mono ?_
      rintro r w9 ⟨rfl, hf⟩
      have HF9 := hid hf
      have HKp := hid (HKp.out.trans (Kp.of hf))
      clear hf
      obtain ⟨⟨k0, k1, k2⟩, hbl⟩ := HK.out _ HKp.out
      go_wp2_with fail
      refine (HGe.out _ (H8.out.step HF9.out)).mono ?_
      rintro r w10 ⟨rfl, hf⟩
      have HF10 := hid (HF9.out.trans hf)
      clear hf
      go_wp2_with fail
      refine (HCe.out _ (H8.out.step HF10.out)).mono ?_
      rintro r w11 ⟨rfl, hw⟩
      have hw := hw.symm
      subst hw
      go_wp2_with fail
      refine (HHd.out _ (H8.out.fr.trans HF10.out)).mono ?_
      rintro r w12 ⟨rfl, hf⟩
      have HF12 := hid (H8.out.fr.trans (HF10.out.trans hf))
      clear hf
      go_wp2_with fail
      go_ret
      exact ⟨rfl, HF12.out⟩
    · have hwt : wantE ⟨v, ze n, st⟩ (em + 1099511627776 - 1) = 0 := by
        unfold wantE mayE
        dsimp only
        rw [ze_size]
        repeat' split
        all_goals omega
      have hok := edge_ok (c := ⟨v, ze n, st⟩) (e := em + 1099511627776 - 1) hwt (by omega)
      have HP1 := hid (fun (W : World) (h : Hd w W S 100 []) => hput (em + 1099511627776 - 1) ⟨v, ze n, st⟩ (oneA 7) W h (by rw [ze_size]; omega) (oneA_fit (by unfold fits; decide)))
      rw [hok.1.1, hok.1.2] at HP1
      have HPb := hid (fun (q : A4) (hq : fit4 q) (hb : q.c = 0 ∨ rightA q = false) (W : World) (h : Hd w W S 100 [(⟨v, ze n, st⟩, [⟨em + 1099511627776 - 1, true, oneA 7⟩])]) => (show Calls Tryd.prog 8 #[.pointer (some ⟨S, 0, none⟩), .int .i64 (em + 1099511627776 - 1), .agg #[.int .i64 v, .string (ze n), .int .i64 st, .int .i64 q.c, .int .i64 q.s, .int .i64 q.m, .int .i64 q.x]] W fun r w' => r = .returned (.int .i64 1) ∧ Hd w w' S 100 [(⟨v, ze n, st⟩, [⟨em + 1099511627776 - 1, true, oneA 7⟩])] ∧ Kp W w' from by
        have h5 := hput (em + 1099511627776 - 1) ⟨v, ze n, st⟩ q W h (by rw [ze_size]; omega) hq
        rw [(hok.2.1 q hb).1, (hok.2.1 q hb).2] at h5
        exact h5))
      have HP2 := hid (HPb.out ⟨1, 2, 3, 3⟩ (by unfold fit4 fits; decide) (Or.inr (by decide)))
      have HP3 := hid (HPb.out a0 (by unfold fit4 fits a0; decide) (Or.inl rfl))
      have HKl := hid (fun (W : World) (h : Hd w W S 100 [(⟨v, ze n, st⟩, [⟨em + 1099511627776 - 1, true, oneA 7⟩])]) => hkill (em + 1099511627776 - 1) ⟨v, ze n, st⟩ W h (by rw [ze_size]; omega))
      rw [hok.2.2.1.1, hok.2.2.1.2] at HKl
      have HU := hid (fun (W : World) (h : Hd w W S 100 [(⟨v, ze n, st⟩, [⟨em + 1099511627776 - 1, false, a0⟩])]) => (show Calls Tryd.prog 11 #[.pointer (some ⟨S, 0, none⟩)] W fun r w' => r = .returned (.int .i64 1) ∧ Fr W w' (fun _ => False) from by
        obtain ⟨X, h1⟩ := h.sh
        have h5 := unitsS_any W h1
        rw [hok.2.2.2.1] at h5
        exact h5))
      have HK1 := hid (fun (W : World) (h : Hd w W S 100 [(⟨v, ze n, st⟩, [⟨em + 1099511627776 - 1, false, a0⟩])]) => hkill (em + 1099511627776 - 1) ⟨v, ze n, st⟩ W h (by rw [ze_size]; omega))
      rw [hok.2.2.2.2.1.1, hok.2.2.2.2.1.2] at HK1
      have HK2 := hid (fun (W : World) (h : Hd w W S 100 [(⟨v, ze n, st⟩, [⟨em + 1099511627776 - 1, false, a0⟩])]) => hkill (em + 1099511627776 - 1 - 1) ⟨v, ze n, st⟩ W h (by rw [ze_size]; omega))
      rw [hok.2.2.2.2.2.1, hok.2.2.2.2.2.2] at HK2
      unfold oneA at HP1
      unfold a0 at HP3
      dsimp only at HP1 HP2 HP3 HKl HK1 HK2
      clear hwt hok HPb
      have H2 := hid ((H1.out.step (alloc_fr w1 (.cells (by8 (List.replicate n 0)).toArray 5) (fun _ => False))).step (alloc_fr _ (.cells #[.int .i64 v, .string (ze n), .int .i64 st] 30) (fun _ => False)))
      have HB := hid (heap_last (w1.alloc (.cells (by8 (List.replicate n 0)).toArray 5)) (.cells #[.int .i64 v, .string (ze n), .int .i64 st] 30) (w1.heap.size + 1) (by simp))
      generalize (w1.alloc (.cells (by8 (List.replicate n 0)).toArray 5)).alloc (.cells #[.int .i64 v, .string (ze n), .int .i64 st] 30) = w3 at *
      have HK := hid (fun (W' : World) (hk : Kp w3 W') => (show (W'.cell? ⟨w1.heap.size + 1, 0, none⟩ = some (.int .i64 v) ∧ W'.cell? ⟨w1.heap.size + 1, 1, none⟩ = some (.string (ze n)) ∧ W'.cell? ⟨w1.heap.size + 1, 2, none⟩ = some (.int .i64 st)) ∧ w1.heap.size + 1 < W'.heap.size from ⟨cells3 (hk.block HB.out (by unfold okT; decide)), Nat.lt_of_lt_of_le (lt_of_block HB.out) hk.1⟩))
      have HF := hid (Fr.refl w3 (fun _ => False))
      have HKp := hid (Kp.refl w3)
      obtain ⟨⟨k0, k1, k2⟩, hbl⟩ := HK.out w3 (Kp.refl _)
      go_region_held3 (fun W' => Hid (Kp w3 W') ∧ W'.cell? ⟨w1.heap.size + 1, 0, none⟩ = some (.int .i64 v) ∧ W'.cell? ⟨w1.heap.size + 1, 1, none⟩ = some (.string (ze n)) ∧ W'.cell? ⟨w1.heap.size + 1, 2, none⟩ = some (.int .i64 st))
        ((refine (fun h => ⟨h, (HK.out _ h).1⟩ : Kp w3 _ → _) ?_; first | exact HKp.out | exact Kp.of (by repeat (first | with_reducible exact HF.out | with_reducible exact Fr.refl _ _ | with_reducible apply Fr.drew | with_reducible apply Fr.alloc))))
        ((first
          | (go_at_call 9; refine (one_any 7 _).mono ?_; rintro r w4 ⟨rfl, hf⟩; have HF := hid (Fr.trans (a := w3) (by repeat (first | with_reducible exact HF.out | with_reducible exact Fr.refl _ _ | with_reducible apply Fr.drew | with_reducible apply Fr.alloc)) hf); have HKp := hid (Kp.of HF.out); clear hf)
          | (go_at_call 8; refine (HP1.out _ (H2.out.step (by repeat (first | with_reducible exact HF.out | with_reducible exact Fr.refl _ _ | with_reducible apply Fr.drew | with_reducible apply Fr.alloc)))).mono ?_; rintro r w5 ⟨rfl, h5, hk5⟩; have H5 := hid h5; have HKp := hid ((Kp.of HF.out).trans ((Kp.of (by repeat (first | with_reducible exact Fr.refl _ _ | with_reducible apply Fr.drew))).trans hk5)); clear h5 hk5)))
      obtain ⟨⟨k0, k1, k2⟩, hbl⟩ := HK.out _ HKp.out
      go_wp2_with fail
      refine (HP2.out _ H5.out).mono ?_
      rintro r w6 ⟨rfl, h6, hk6⟩
      have H6 := hid h6
      have HKp := hid (HKp.out.trans hk6)
      clear h6 hk6
      obtain ⟨⟨k0, k1, k2⟩, hbl⟩ := HK.out _ HKp.out
      go_wp2_with fail
      refine (HP3.out _ H6.out).mono ?_
      rintro r w7 ⟨rfl, h7, hk7⟩
      have H7 := hid h7
      have HKp := hid (HKp.out.trans hk7)
      clear h7 hk7
      obtain ⟨⟨k0, k1, k2⟩, hbl⟩ := HK.out _ HKp.out
      go_wp2_with fail
      refine (HKl.out _ H7.out).mono ?_
      rintro r w8 ⟨rfl, h8, hk8⟩
      have H8 := hid h8
      have HKp := hid (HKp.out.trans hk8)
      clear h8 hk8
      obtain ⟨⟨k0, k1, k2⟩, hbl⟩ := HK.out _ HKp.out
      go_wp2_with fail
      refine (HU.out _ H8.out).mono ?_
      rintro r w9 ⟨rfl, hf⟩
      have HF9 := hid hf
      have HKp := hid (HKp.out.trans (Kp.of hf))
      clear hf
      obtain ⟨⟨k0, k1, k2⟩, hbl⟩ := HK.out _ HKp.out
      go_wp2_with fail
      refine (HK1.out _ (H8.out.step HF9.out)).mono ?_
      rintro r w10 ⟨rfl, h10, hk10⟩
      have H10 := hid h10
      have HKp := hid (HKp.out.trans hk10)
      clear h10 hk10
      obtain ⟨⟨k0, k1, k2⟩, hbl⟩ := HK.out _ HKp.out
      go_wp2_with fail
      refine (HK2.out _ H10.out).mono ?_
      rintro r w11 ⟨rfl, h11, _⟩
      have H11 := hid h11
      clear h11
      go_wp2_with fail
      refine (HHd.out _ H11.out.fr).mono ?_
      rintro r w12 ⟨rfl, hf⟩
      have HF12 := hid (H11.out.fr.trans hf)
      clear hf
      go_wp2_with fail
      go_ret
      exact ⟨rfl, HF12.out⟩
    · have hwt : wantE ⟨v, ze n, st⟩ (em + 1099511627776 - 1) = 22 := by
        unfold wantE mayE
        dsimp only
        rw [ze_size]
        repeat' split
        all_goals omega
      have hne : wantE ⟨v, ze n, st⟩ (em + 1099511627776 - 1) ≠ 0 := by rw [hwt]; decide
      have HP := hid (fun (q : A4) (hq : fit4 q) (W : World) (h : Hd w W S 100 []) => (show Calls Tryd.prog 8 #[.pointer (some ⟨S, 0, none⟩), .int .i64 (em + 1099511627776 - 1), .agg #[.int .i64 v, .string (ze n), .int .i64 st, .int .i64 q.c, .int .i64 q.s, .int .i64 q.m, .int .i64 q.x]] W fun r w' => r = .returned (.int .i64 (wantE ⟨v, ze n, st⟩ (em + 1099511627776 - 1))) ∧ Hd w w' S 100 [] ∧ Kp W w' from by
        have h5 := hput (em + 1099511627776 - 1) ⟨v, ze n, st⟩ q W h (by rw [ze_size]; omega) hq
        rw [(want_put hne 100 q).1, (want_put hne 100 q).2] at h5
        exact h5))
      have HKl := hid (fun (W : World) (h : Hd w W S 100 []) => (show Calls Tryd.prog 10 #[.pointer (some ⟨S, 0, none⟩), .int .i64 (em + 1099511627776 - 1), .agg #[.int .i64 v, .string (ze n), .int .i64 st]] W fun r w' => r = .returned (.int .i64 (wantE ⟨v, ze n, st⟩ (em + 1099511627776 - 1))) ∧ Hd w w' S 100 [] ∧ Kp W w' from by
        have h5 := hkill (em + 1099511627776 - 1) ⟨v, ze n, st⟩ W h (by rw [ze_size]; omega)
        rw [(want_kill hne).1, (want_kill hne).2] at h5
        exact h5))
      have HP1 := hid (HP.out (oneA 7) (oneA_fit (by unfold fits; decide)))
      have HP2 := hid (HP.out ⟨1, 2, 3, 3⟩ (by unfold fit4 fits; decide))
      have HP3 := hid (HP.out a0 (by unfold fit4 fits a0; decide))
      unfold oneA at HP1
      unfold a0 at HP3
      dsimp only at HP1 HP2 HP3
      rw [hwt] at HP1 HP2 HP3 HKl
      have HGe := hid (fun (W : World) (h : Hd w W S 100 []) => (show Calls Tryd.prog 12 #[.pointer (some ⟨S, 0, none⟩), .agg #[.int .i64 v, .string (ze n), .int .i64 st]] W fun r w' => r = .returned (.agg #[.int .i64 0, .int .i64 0, .int .i64 0, .int .i64 0]) ∧ Fr W w' (fun _ => False) from by
        obtain ⟨X, h1⟩ := h.sh
        have h5 := get_any ⟨v, ze n, st⟩ W h1 (by rw [ze_size]; omega)
        rw [tell_nil] at h5
        exact h5))
      have HU := hid (fun (W : World) (h : Hd w W S 100 []) => (show Calls Tryd.prog 11 #[.pointer (some ⟨S, 0, none⟩)] W fun r w' => r = .returned (.int .i64 0) ∧ Fr W w' (fun _ => False) from by
        obtain ⟨X, h1⟩ := h.sh
        exact unitsS_any W h1))
      have HCe := hid (fun (W : World) (h : Hd w W S 100 []) => (show Calls Tryd.prog 13 #[.pointer (some ⟨S, 0, none⟩)] W fun r w' => r = .returned (.int .i64 0) ∧ w' = W from by
        obtain ⟨X, h1⟩ := h.sh
        exact cellsS_any W h1))
      clear hwt hne HP
      have H2 := hid ((H1.out.step (alloc_fr w1 (.cells (by8 (List.replicate n 0)).toArray 5) (fun _ => False))).step (alloc_fr _ (.cells #[.int .i64 v, .string (ze n), .int .i64 st] 30) (fun _ => False)))
      have HB := hid (heap_last (w1.alloc (.cells (by8 (List.replicate n 0)).toArray 5)) (.cells #[.int .i64 v, .string (ze n), .int .i64 st] 30) (w1.heap.size + 1) (by simp))
      generalize (w1.alloc (.cells (by8 (List.replicate n 0)).toArray 5)).alloc (.cells #[.int .i64 v, .string (ze n), .int .i64 st] 30) = w3 at *
      have HK := hid (fun (W' : World) (hk : Kp w3 W') => (show (W'.cell? ⟨w1.heap.size + 1, 0, none⟩ = some (.int .i64 v) ∧ W'.cell? ⟨w1.heap.size + 1, 1, none⟩ = some (.string (ze n)) ∧ W'.cell? ⟨w1.heap.size + 1, 2, none⟩ = some (.int .i64 st)) ∧ w1.heap.size + 1 < W'.heap.size from ⟨cells3 (hk.block HB.out (by unfold okT; decide)), Nat.lt_of_lt_of_le (lt_of_block HB.out) hk.1⟩))
      have HF := hid (Fr.refl w3 (fun _ => False))
      have HKp := hid (Kp.refl w3)
      obtain ⟨⟨k0, k1, k2⟩, hbl⟩ := HK.out w3 (Kp.refl _)
      go_region_held3 (fun W' => Hid (Kp w3 W') ∧ W'.cell? ⟨w1.heap.size + 1, 0, none⟩ = some (.int .i64 v) ∧ W'.cell? ⟨w1.heap.size + 1, 1, none⟩ = some (.string (ze n)) ∧ W'.cell? ⟨w1.heap.size + 1, 2, none⟩ = some (.int .i64 st))
        ((refine (fun h => ⟨h, (HK.out _ h).1⟩ : Kp w3 _ → _) ?_; first | exact HKp.out | exact Kp.of (by repeat (first | with_reducible exact HF.out | with_reducible exact Fr.refl _ _ | with_reducible apply Fr.drew | with_reducible apply Fr.alloc))))
        ((first
          | (go_at_call 9; refine (one_any 7 _).mono ?_; rintro r w4 ⟨rfl, hf⟩; have HF := hid (Fr.trans (a := w3) (by repeat (first | with_reducible exact HF.out | with_reducible exact Fr.refl _ _ | with_reducible apply Fr.drew | with_reducible apply Fr.alloc)) hf); have HKp := hid (Kp.of HF.out); clear hf)
          | (go_at_call 8; refine (HP1.out _ (H2.out.step (by repeat (first | with_reducible exact HF.out | with_reducible exact Fr.refl _ _ | with_reducible apply Fr.drew | with_reducible apply Fr.alloc)))).mono ?_; rintro r w5 ⟨rfl, h5, hk5⟩; have H5 := hid h5; have HKp := hid ((Kp.of HF.out).trans ((Kp.of (by repeat (first | with_reducible exact Fr.refl _ _ | with_reducible apply Fr.drew))).trans hk5)); clear h5 hk5)))
      obtain ⟨⟨k0, k1, k2⟩, hbl⟩ := HK.out _ HKp.out
      go_wp2_with fail
      refine (HP2.out _ H5.out).mono ?_
      rintro r w6 ⟨rfl, h6, hk6⟩
      have H6 := hid h6
      have HKp := hid (HKp.out.trans hk6)
      clear h6 hk6
      obtain ⟨⟨k0, k1, k2⟩, hbl⟩ := HK.out _ HKp.out
      go_wp2_with fail
      refine (HP3.out _ H6.out).mono ?_
      rintro r w7 ⟨rfl, h7, hk7⟩
      have H7 := hid h7
      have HKp := hid (HKp.out.trans hk7)
      clear h7 hk7
      obtain ⟨⟨k0, k1, k2⟩, hbl⟩ := HK.out _ HKp.out
      go_wp2_with fail
      refine (HKl.out _ H7.out).mono ?_
      rintro r w8 ⟨rfl, h8, hk8⟩
      have H8 := hid h8
      have HKp := hid (HKp.out.trans hk8)
      clear h8 hk8
      obtain ⟨⟨k0, k1, k2⟩, hbl⟩ := HK.out _ HKp.out
      go_wp2_with fail
      refine (HU.out _ H8.out).mono ?_
      rintro r w9 ⟨rfl, hf⟩
      have HF9 := hid hf
      have HKp := hid (HKp.out.trans (Kp.of hf))
      clear hf
      obtain ⟨⟨k0, k1, k2⟩, hbl⟩ := HK.out _ HKp.out
      go_wp2_with fail
      refine (HGe.out _ (H8.out.step HF9.out)).mono ?_
      rintro r w10 ⟨rfl, hf⟩
      have HF10 := hid (HF9.out.trans hf)
      clear hf
      go_wp2_with fail
      refine (HCe.out _ (H8.out.step HF10.out)).mono ?_
      rintro r w11 ⟨rfl, hw⟩
      have hw := hw.symm
      subst hw
      go_wp2_with fail
      refine (HHd.out _ (H8.out.fr.trans HF10.out)).mono ?_
      rintro r w12 ⟨rfl, hf⟩
      have HF12 := hid (H8.out.fr.trans (HF10.out.trans hf))
      clear hf
      go_wp2_with fail
      go_ret
      exact ⟨rfl, HF12.out⟩
    · have hwt : wantE ⟨v, ze n, st⟩ (em + 1099511627776 - 1) = 21 := by
        unfold wantE mayE
        dsimp only
        rw [ze_size]
        repeat' split
        all_goals omega
      have hne : wantE ⟨v, ze n, st⟩ (em + 1099511627776 - 1) ≠ 0 := by rw [hwt]; decide
      have HP := hid (fun (q : A4) (hq : fit4 q) (W : World) (h : Hd w W S 100 []) => (show Calls Tryd.prog 8 #[.pointer (some ⟨S, 0, none⟩), .int .i64 (em + 1099511627776 - 1), .agg #[.int .i64 v, .string (ze n), .int .i64 st, .int .i64 q.c, .int .i64 q.s, .int .i64 q.m, .int .i64 q.x]] W fun r w' => r = .returned (.int .i64 (wantE ⟨v, ze n, st⟩ (em + 1099511627776 - 1))) ∧ Hd w w' S 100 [] ∧ Kp W w' from by
        have h5 := hput (em + 1099511627776 - 1) ⟨v, ze n, st⟩ q W h (by rw [ze_size]; omega) hq
        rw [(want_put hne 100 q).1, (want_put hne 100 q).2] at h5
        exact h5))
      have HKl := hid (fun (W : World) (h : Hd w W S 100 []) => (show Calls Tryd.prog 10 #[.pointer (some ⟨S, 0, none⟩), .int .i64 (em + 1099511627776 - 1), .agg #[.int .i64 v, .string (ze n), .int .i64 st]] W fun r w' => r = .returned (.int .i64 (wantE ⟨v, ze n, st⟩ (em + 1099511627776 - 1))) ∧ Hd w w' S 100 [] ∧ Kp W w' from by
        have h5 := hkill (em + 1099511627776 - 1) ⟨v, ze n, st⟩ W h (by rw [ze_size]; omega)
        rw [(want_kill hne).1, (want_kill hne).2] at h5
        exact h5))
      have HP1 := hid (HP.out (oneA 7) (oneA_fit (by unfold fits; decide)))
      have HP2 := hid (HP.out ⟨1, 2, 3, 3⟩ (by unfold fit4 fits; decide))
      have HP3 := hid (HP.out a0 (by unfold fit4 fits a0; decide))
      unfold oneA at HP1
      unfold a0 at HP3
      dsimp only at HP1 HP2 HP3
      rw [hwt] at HP1 HP2 HP3 HKl
      have HGe := hid (fun (W : World) (h : Hd w W S 100 []) => (show Calls Tryd.prog 12 #[.pointer (some ⟨S, 0, none⟩), .agg #[.int .i64 v, .string (ze n), .int .i64 st]] W fun r w' => r = .returned (.agg #[.int .i64 0, .int .i64 0, .int .i64 0, .int .i64 0]) ∧ Fr W w' (fun _ => False) from by
        obtain ⟨X, h1⟩ := h.sh
        have h5 := get_any ⟨v, ze n, st⟩ W h1 (by rw [ze_size]; omega)
        rw [tell_nil] at h5
        exact h5))
      have HU := hid (fun (W : World) (h : Hd w W S 100 []) => (show Calls Tryd.prog 11 #[.pointer (some ⟨S, 0, none⟩)] W fun r w' => r = .returned (.int .i64 0) ∧ Fr W w' (fun _ => False) from by
        obtain ⟨X, h1⟩ := h.sh
        exact unitsS_any W h1))
      have HCe := hid (fun (W : World) (h : Hd w W S 100 []) => (show Calls Tryd.prog 13 #[.pointer (some ⟨S, 0, none⟩)] W fun r w' => r = .returned (.int .i64 0) ∧ w' = W from by
        obtain ⟨X, h1⟩ := h.sh
        exact cellsS_any W h1))
      clear hwt hne HP
      have H2 := hid ((H1.out.step (alloc_fr w1 (.cells (by8 (List.replicate n 0)).toArray 5) (fun _ => False))).step (alloc_fr _ (.cells #[.int .i64 v, .string (ze n), .int .i64 st] 30) (fun _ => False)))
      have HB := hid (heap_last (w1.alloc (.cells (by8 (List.replicate n 0)).toArray 5)) (.cells #[.int .i64 v, .string (ze n), .int .i64 st] 30) (w1.heap.size + 1) (by simp))
      generalize (w1.alloc (.cells (by8 (List.replicate n 0)).toArray 5)).alloc (.cells #[.int .i64 v, .string (ze n), .int .i64 st] 30) = w3 at *
      have HK := hid (fun (W' : World) (hk : Kp w3 W') => (show (W'.cell? ⟨w1.heap.size + 1, 0, none⟩ = some (.int .i64 v) ∧ W'.cell? ⟨w1.heap.size + 1, 1, none⟩ = some (.string (ze n)) ∧ W'.cell? ⟨w1.heap.size + 1, 2, none⟩ = some (.int .i64 st)) ∧ w1.heap.size + 1 < W'.heap.size from ⟨cells3 (hk.block HB.out (by unfold okT; decide)), Nat.lt_of_lt_of_le (lt_of_block HB.out) hk.1⟩))
      have HF := hid (Fr.refl w3 (fun _ => False))
      have HKp := hid (Kp.refl w3)
      obtain ⟨⟨k0, k1, k2⟩, hbl⟩ := HK.out w3 (Kp.refl _)
      go_region_held3 (fun W' => Hid (Kp w3 W') ∧ W'.cell? ⟨w1.heap.size + 1, 0, none⟩ = some (.int .i64 v) ∧ W'.cell? ⟨w1.heap.size + 1, 1, none⟩ = some (.string (ze n)) ∧ W'.cell? ⟨w1.heap.size + 1, 2, none⟩ = some (.int .i64 st))
        ((refine (fun h => ⟨h, (HK.out _ h).1⟩ : Kp w3 _ → _) ?_; first | exact HKp.out | exact Kp.of (by repeat (first | with_reducible exact HF.out | with_reducible exact Fr.refl _ _ | with_reducible apply Fr.drew | with_reducible apply Fr.alloc))))
        ((first
          | (go_at_call 9; refine (one_any 7 _).mono ?_; rintro r w4 ⟨rfl, hf⟩; have HF := hid (Fr.trans (a := w3) (by repeat (first | with_reducible exact HF.out | with_reducible exact Fr.refl _ _ | with_reducible apply Fr.drew | with_reducible apply Fr.alloc)) hf); have HKp := hid (Kp.of HF.out); clear hf)
          | (go_at_call 8; refine (HP1.out _ (H2.out.step (by repeat (first | with_reducible exact HF.out | with_reducible exact Fr.refl _ _ | with_reducible apply Fr.drew | with_reducible apply Fr.alloc)))).mono ?_; rintro r w5 ⟨rfl, h5, hk5⟩; have H5 := hid h5; have HKp := hid ((Kp.of HF.out).trans ((Kp.of (by repeat (first | with_reducible exact Fr.refl _ _ | with_reducible apply Fr.drew))).trans hk5)); clear h5 hk5)))
      obtain ⟨⟨k0, k1, k2⟩, hbl⟩ := HK.out _ HKp.out
      go_wp2_with fail
      refine (HP2.out _ H5.out).mono ?_
      rintro r w6 ⟨rfl, h6, hk6⟩
      have H6 := hid h6
      have HKp := hid (HKp.out.trans hk6)
      clear h6 hk6
      obtain ⟨⟨k0, k1, k2⟩, hbl⟩ := HK.out _ HKp.out
      go_wp2_with fail
      refine (HP3.out _ H6.out).mono ?_
      rintro r w7 ⟨rfl, h7, hk7⟩
      have H7 := hid h7
      have HKp := hid (HKp.out.trans hk7)
      clear h7 hk7
      obtain ⟨⟨k0, k1, k2⟩, hbl⟩ := HK.out _ HKp.out
      go_wp2_with fail
      refine (HKl.out _ H7.out).mono ?_
      rintro r w8 ⟨rfl, h8, hk8⟩
      have H8 := hid h8
      have HKp := hid (HKp.out.trans hk8)
      clear h8 hk8
      obtain ⟨⟨k0, k1, k2⟩, hbl⟩ := HK.out _ HKp.out
      go_wp2_with fail
      refine (HU.out _ H8.out).mono ?_
      rintro r w9 ⟨rfl, hf⟩
      have HF9 := hid hf
      have HKp := hid (HKp.out.trans (Kp.of hf))
      clear hf
      obtain ⟨⟨k0, k1, k2⟩, hbl⟩ := HK.out _ HKp.out
      go_wp2_with fail
      refine (HGe.out _ (H8.out.step HF9.out)).mono ?_
      rintro r w10 ⟨rfl, hf⟩
      have HF10 := hid (HF9.out.trans hf)
      clear hf
      go_wp2_with fail
      refine (HCe.out _ (H8.out.step HF10.out)).mono ?_
      rintro r w11 ⟨rfl, hw⟩
      have hw := hw.symm
      subst hw
      go_wp2_with fail
      refine (HHd.out _ (H8.out.fr.trans HF10.out)).mono ?_
      rintro r w12 ⟨rfl, hf⟩
      have HF12 := hid (H8.out.fr.trans (HF10.out.trans hf))
      clear hf
      go_wp2_with fail
      go_ret
      exact ⟨rfl, HF12.out⟩
    · have hwt : wantE ⟨v, ze n, st⟩ (em + 1099511627776 - 1) = 23 := by
        unfold wantE mayE
        dsimp only
        rw [ze_size]
        repeat' split
        all_goals omega
      have hne : wantE ⟨v, ze n, st⟩ (em + 1099511627776 - 1) ≠ 0 := by rw [hwt]; decide
      have HP := hid (fun (q : A4) (hq : fit4 q) (W : World) (h : Hd w W S 100 []) => (show Calls Tryd.prog 8 #[.pointer (some ⟨S, 0, none⟩), .int .i64 (em + 1099511627776 - 1), .agg #[.int .i64 v, .string (ze n), .int .i64 st, .int .i64 q.c, .int .i64 q.s, .int .i64 q.m, .int .i64 q.x]] W fun r w' => r = .returned (.int .i64 (wantE ⟨v, ze n, st⟩ (em + 1099511627776 - 1))) ∧ Hd w w' S 100 [] ∧ Kp W w' from by
        have h5 := hput (em + 1099511627776 - 1) ⟨v, ze n, st⟩ q W h (by rw [ze_size]; omega) hq
        rw [(want_put hne 100 q).1, (want_put hne 100 q).2] at h5
        exact h5))
      have HKl := hid (fun (W : World) (h : Hd w W S 100 []) => (show Calls Tryd.prog 10 #[.pointer (some ⟨S, 0, none⟩), .int .i64 (em + 1099511627776 - 1), .agg #[.int .i64 v, .string (ze n), .int .i64 st]] W fun r w' => r = .returned (.int .i64 (wantE ⟨v, ze n, st⟩ (em + 1099511627776 - 1))) ∧ Hd w w' S 100 [] ∧ Kp W w' from by
        have h5 := hkill (em + 1099511627776 - 1) ⟨v, ze n, st⟩ W h (by rw [ze_size]; omega)
        rw [(want_kill hne).1, (want_kill hne).2] at h5
        exact h5))
      have HP1 := hid (HP.out (oneA 7) (oneA_fit (by unfold fits; decide)))
      have HP2 := hid (HP.out ⟨1, 2, 3, 3⟩ (by unfold fit4 fits; decide))
      have HP3 := hid (HP.out a0 (by unfold fit4 fits a0; decide))
      unfold oneA at HP1
      unfold a0 at HP3
      dsimp only at HP1 HP2 HP3
      rw [hwt] at HP1 HP2 HP3 HKl
      have HGe := hid (fun (W : World) (h : Hd w W S 100 []) => (show Calls Tryd.prog 12 #[.pointer (some ⟨S, 0, none⟩), .agg #[.int .i64 v, .string (ze n), .int .i64 st]] W fun r w' => r = .returned (.agg #[.int .i64 0, .int .i64 0, .int .i64 0, .int .i64 0]) ∧ Fr W w' (fun _ => False) from by
        obtain ⟨X, h1⟩ := h.sh
        have h5 := get_any ⟨v, ze n, st⟩ W h1 (by rw [ze_size]; omega)
        rw [tell_nil] at h5
        exact h5))
      have HU := hid (fun (W : World) (h : Hd w W S 100 []) => (show Calls Tryd.prog 11 #[.pointer (some ⟨S, 0, none⟩)] W fun r w' => r = .returned (.int .i64 0) ∧ Fr W w' (fun _ => False) from by
        obtain ⟨X, h1⟩ := h.sh
        exact unitsS_any W h1))
      have HCe := hid (fun (W : World) (h : Hd w W S 100 []) => (show Calls Tryd.prog 13 #[.pointer (some ⟨S, 0, none⟩)] W fun r w' => r = .returned (.int .i64 0) ∧ w' = W from by
        obtain ⟨X, h1⟩ := h.sh
        exact cellsS_any W h1))
      clear hwt hne HP
      have H2 := hid ((H1.out.step (alloc_fr w1 (.cells (by8 (List.replicate n 0)).toArray 5) (fun _ => False))).step (alloc_fr _ (.cells #[.int .i64 v, .string (ze n), .int .i64 st] 30) (fun _ => False)))
      have HB := hid (heap_last (w1.alloc (.cells (by8 (List.replicate n 0)).toArray 5)) (.cells #[.int .i64 v, .string (ze n), .int .i64 st] 30) (w1.heap.size + 1) (by simp))
      generalize (w1.alloc (.cells (by8 (List.replicate n 0)).toArray 5)).alloc (.cells #[.int .i64 v, .string (ze n), .int .i64 st] 30) = w3 at *
      have HK := hid (fun (W' : World) (hk : Kp w3 W') => (show (W'.cell? ⟨w1.heap.size + 1, 0, none⟩ = some (.int .i64 v) ∧ W'.cell? ⟨w1.heap.size + 1, 1, none⟩ = some (.string (ze n)) ∧ W'.cell? ⟨w1.heap.size + 1, 2, none⟩ = some (.int .i64 st)) ∧ w1.heap.size + 1 < W'.heap.size from ⟨cells3 (hk.block HB.out (by unfold okT; decide)), Nat.lt_of_lt_of_le (lt_of_block HB.out) hk.1⟩))
      have HF := hid (Fr.refl w3 (fun _ => False))
      have HKp := hid (Kp.refl w3)
      obtain ⟨⟨k0, k1, k2⟩, hbl⟩ := HK.out w3 (Kp.refl _)
      go_region_held3 (fun W' => Hid (Kp w3 W') ∧ W'.cell? ⟨w1.heap.size + 1, 0, none⟩ = some (.int .i64 v) ∧ W'.cell? ⟨w1.heap.size + 1, 1, none⟩ = some (.string (ze n)) ∧ W'.cell? ⟨w1.heap.size + 1, 2, none⟩ = some (.int .i64 st))
        ((refine (fun h => ⟨h, (HK.out _ h).1⟩ : Kp w3 _ → _) ?_; first | exact HKp.out | exact Kp.of (by repeat (first | with_reducible exact HF.out | with_reducible exact Fr.refl _ _ | with_reducible apply Fr.drew | with_reducible apply Fr.alloc))))
        ((first
          | (go_at_call 9; refine (one_any 7 _).mono ?_; rintro r w4 ⟨rfl, hf⟩; have HF := hid (Fr.trans (a := w3) (by repeat (first | with_reducible exact HF.out | with_reducible exact Fr.refl _ _ | with_reducible apply Fr.drew | with_reducible apply Fr.alloc)) hf); have HKp := hid (Kp.of HF.out); clear hf)
          | (go_at_call 8; refine (HP1.out _ (H2.out.step (by repeat (first | with_reducible exact HF.out | with_reducible exact Fr.refl _ _ | with_reducible apply Fr.drew | with_reducible apply Fr.alloc)))).mono ?_; rintro r w5 ⟨rfl, h5, hk5⟩; have H5 := hid h5; have HKp := hid ((Kp.of HF.out).trans ((Kp.of (by repeat (first | with_reducible exact Fr.refl _ _ | with_reducible apply Fr.drew))).trans hk5)); clear h5 hk5)))
      obtain ⟨⟨k0, k1, k2⟩, hbl⟩ := HK.out _ HKp.out
      go_wp2_with fail
      refine (HP2.out _ H5.out).mono ?_
      rintro r w6 ⟨rfl, h6, hk6⟩
      have H6 := hid h6
      have HKp := hid (HKp.out.trans hk6)
      clear h6 hk6
      obtain ⟨⟨k0, k1, k2⟩, hbl⟩ := HK.out _ HKp.out
      go_wp2_with fail
      refine (HP3.out _ H6.out).mono ?_
      rintro r w7 ⟨rfl, h7, hk7⟩
      have H7 := hid h7
      have HKp := hid (HKp.out.trans hk7)
      clear h7 hk7
      obtain ⟨⟨k0, k1, k2⟩, hbl⟩ := HK.out _ HKp.out
      go_wp2_with fail
      refine (HKl.out _ H7.out).mono ?_
      rintro r w8 ⟨rfl, h8, hk8⟩
      have H8 := hid h8
      have HKp := hid (HKp.out.trans hk8)
      clear h8 hk8
      obtain ⟨⟨k0, k1, k2⟩, hbl⟩ := HK.out _ HKp.out
      go_wp2_with fail
      refine (HU.out _ H8.out).mono ?_
      rintro r w9 ⟨rfl, hf⟩
      have HF9 := hid hf
      have HKp := hid (HKp.out.trans (Kp.of hf))
      clear hf
      obtain ⟨⟨k0, k1, k2⟩, hbl⟩ := HK.out _ HKp.out
      go_wp2_with fail
      refine (HGe.out _ (H8.out.step HF9.out)).mono ?_
      rintro r w10 ⟨rfl, hf⟩
      have HF10 := hid (HF9.out.trans hf)
      clear hf
      go_wp2_with fail
      refine (HCe.out _ (H8.out.step HF10.out)).mono ?_
      rintro r w11 ⟨rfl, hw⟩
      have hw := hw.symm
      subst hw
      go_wp2_with fail
      refine (HHd.out _ (H8.out.fr.trans HF10.out)).mono ?_
      rintro r w12 ⟨rfl, hf⟩
      have HF12 := hid (H8.out.fr.trans (HF10.out.trans hf))
      clear hf
      go_wp2_with fail
      go_ret
      exact ⟨rfl, HF12.out⟩
  · obtain ⟨st, hst, hb1, hb2⟩ : ∃ st, -(2305843009213693952 + s.tmod 3) = st ∧ -2305843009213693954 ≤ st ∧ st ≤ 2305843009213693954 := ⟨_, rfl, by omega, by omega⟩
    rw [hst]
    clear hst q5 q6
    generalize hv : va - 1 = v at *
    go_wp2_with fail
    · have hwt : wantE ⟨v, ze n, st⟩ (em + 1099511627776 - 1) = 23 := by
        unfold wantE mayE
        dsimp only
        rw [ze_size]
        repeat' split
        all_goals omega
      have hne : wantE ⟨v, ze n, st⟩ (em + 1099511627776 - 1) ≠ 0 := by rw [hwt]; decide
      have HP := hid (fun (q : A4) (hq : fit4 q) (W : World) (h : Hd w W S 100 []) => (show Calls Tryd.prog 8 #[.pointer (some ⟨S, 0, none⟩), .int .i64 (em + 1099511627776 - 1), .agg #[.int .i64 v, .string (ze n), .int .i64 st, .int .i64 q.c, .int .i64 q.s, .int .i64 q.m, .int .i64 q.x]] W fun r w' => r = .returned (.int .i64 (wantE ⟨v, ze n, st⟩ (em + 1099511627776 - 1))) ∧ Hd w w' S 100 [] ∧ Kp W w' from by
        have h5 := hput (em + 1099511627776 - 1) ⟨v, ze n, st⟩ q W h (by rw [ze_size]; omega) hq
        rw [(want_put hne 100 q).1, (want_put hne 100 q).2] at h5
        exact h5))
      have HKl := hid (fun (W : World) (h : Hd w W S 100 []) => (show Calls Tryd.prog 10 #[.pointer (some ⟨S, 0, none⟩), .int .i64 (em + 1099511627776 - 1), .agg #[.int .i64 v, .string (ze n), .int .i64 st]] W fun r w' => r = .returned (.int .i64 (wantE ⟨v, ze n, st⟩ (em + 1099511627776 - 1))) ∧ Hd w w' S 100 [] ∧ Kp W w' from by
        have h5 := hkill (em + 1099511627776 - 1) ⟨v, ze n, st⟩ W h (by rw [ze_size]; omega)
        rw [(want_kill hne).1, (want_kill hne).2] at h5
        exact h5))
      have HP1 := hid (HP.out (oneA 7) (oneA_fit (by unfold fits; decide)))
      have HP2 := hid (HP.out ⟨1, 2, 3, 3⟩ (by unfold fit4 fits; decide))
      have HP3 := hid (HP.out a0 (by unfold fit4 fits a0; decide))
      unfold oneA at HP1
      unfold a0 at HP3
      dsimp only at HP1 HP2 HP3
      rw [hwt] at HP1 HP2 HP3 HKl
      have HGe := hid (fun (W : World) (h : Hd w W S 100 []) => (show Calls Tryd.prog 12 #[.pointer (some ⟨S, 0, none⟩), .agg #[.int .i64 v, .string (ze n), .int .i64 st]] W fun r w' => r = .returned (.agg #[.int .i64 0, .int .i64 0, .int .i64 0, .int .i64 0]) ∧ Fr W w' (fun _ => False) from by
        obtain ⟨X, h1⟩ := h.sh
        have h5 := get_any ⟨v, ze n, st⟩ W h1 (by rw [ze_size]; omega)
        rw [tell_nil] at h5
        exact h5))
      have HU := hid (fun (W : World) (h : Hd w W S 100 []) => (show Calls Tryd.prog 11 #[.pointer (some ⟨S, 0, none⟩)] W fun r w' => r = .returned (.int .i64 0) ∧ Fr W w' (fun _ => False) from by
        obtain ⟨X, h1⟩ := h.sh
        exact unitsS_any W h1))
      have HCe := hid (fun (W : World) (h : Hd w W S 100 []) => (show Calls Tryd.prog 13 #[.pointer (some ⟨S, 0, none⟩)] W fun r w' => r = .returned (.int .i64 0) ∧ w' = W from by
        obtain ⟨X, h1⟩ := h.sh
        exact cellsS_any W h1))
      clear hwt hne HP
      have H2 := hid ((H1.out.step (alloc_fr w1 (.cells (by8 (List.replicate n 0)).toArray 5) (fun _ => False))).step (alloc_fr _ (.cells #[.int .i64 v, .string (ze n), .int .i64 st] 30) (fun _ => False)))
      have HB := hid (heap_last (w1.alloc (.cells (by8 (List.replicate n 0)).toArray 5)) (.cells #[.int .i64 v, .string (ze n), .int .i64 st] 30) (w1.heap.size + 1) (by simp))
      generalize (w1.alloc (.cells (by8 (List.replicate n 0)).toArray 5)).alloc (.cells #[.int .i64 v, .string (ze n), .int .i64 st] 30) = w3 at *
      have HK := hid (fun (W' : World) (hk : Kp w3 W') => (show (W'.cell? ⟨w1.heap.size + 1, 0, none⟩ = some (.int .i64 v) ∧ W'.cell? ⟨w1.heap.size + 1, 1, none⟩ = some (.string (ze n)) ∧ W'.cell? ⟨w1.heap.size + 1, 2, none⟩ = some (.int .i64 st)) ∧ w1.heap.size + 1 < W'.heap.size from ⟨cells3 (hk.block HB.out (by unfold okT; decide)), Nat.lt_of_lt_of_le (lt_of_block HB.out) hk.1⟩))
      have HF := hid (Fr.refl w3 (fun _ => False))
      have HKp := hid (Kp.refl w3)
      obtain ⟨⟨k0, k1, k2⟩, hbl⟩ := HK.out w3 (Kp.refl _)
      go_region_held3 (fun W' => Hid (Kp w3 W') ∧ W'.cell? ⟨w1.heap.size + 1, 0, none⟩ = some (.int .i64 v) ∧ W'.cell? ⟨w1.heap.size + 1, 1, none⟩ = some (.string (ze n)) ∧ W'.cell? ⟨w1.heap.size + 1, 2, none⟩ = some (.int .i64 st))
        ((refine (fun h => ⟨h, (HK.out _ h).1⟩ : Kp w3 _ → _) ?_; first | exact HKp.out | exact Kp.of (by repeat (first | with_reducible exact HF.out | with_reducible exact Fr.refl _ _ | with_reducible apply Fr.drew | with_reducible apply Fr.alloc))))
        ((first
          | (go_at_call 9; refine (one_any 7 _).mono ?_; rintro r w4 ⟨rfl, hf⟩; have HF := hid (Fr.trans (a := w3) (by repeat (first | with_reducible exact HF.out | with_reducible exact Fr.refl _ _ | with_reducible apply Fr.drew | with_reducible apply Fr.alloc)) hf); have HKp := hid (Kp.of HF.out); clear hf)
          | (go_at_call 8; refine (HP1.out _ (H2.out.step (by repeat (first | with_reducible exact HF.out | with_reducible exact Fr.refl _ _ | with_reducible apply Fr.drew | with_reducible apply Fr.alloc)))).mono ?_; rintro r w5 ⟨rfl, h5, hk5⟩; have H5 := hid h5; have HKp := hid ((Kp.of HF.out).trans ((Kp.of (by repeat (first | with_reducible exact Fr.refl _ _ | with_reducible apply Fr.drew))).trans hk5)); clear h5 hk5)))
      obtain ⟨⟨k0, k1, k2⟩, hbl⟩ := HK.out _ HKp.out
      go_wp2_with fail
      refine (HP2.out _ H5.out).mono ?_
      rintro r w6 ⟨rfl, h6, hk6⟩
      have H6 := hid h6
      have HKp := hid (HKp.out.trans hk6)
      clear h6 hk6
      obtain ⟨⟨k0, k1, k2⟩, hbl⟩ := HK.out _ HKp.out
      go_wp2_with fail
      refine (HP3.out _ H6.out).mono ?_
      rintro r w7 ⟨rfl, h7, hk7⟩
      have H7 := hid h7
      have HKp := hid (HKp.out.trans hk7)
      clear h7 hk7
      obtain ⟨⟨k0, k1, k2⟩, hbl⟩ := HK.out _ HKp.out
      go_wp2_with fail
      refine (HKl.out _ H7.out).mono ?_
      rintro r w8 ⟨rfl, h8, hk8⟩
      have H8 := hid h8
      have HKp := hid (HKp.out.trans hk8)
      clear h8 hk8
      obtain ⟨⟨k0, k1, k2⟩, hbl⟩ := HK.out _ HKp.out
      go_wp2_with fail
      refine (HU.out _ H8.out).mono ?_
      rintro r w9 ⟨rfl, hf⟩
      have HF9 := hid hf
      have HKp := hid (HKp.out.trans (Kp.of hf))
      clear hf
      obtain ⟨⟨k0, k1, k2⟩, hbl⟩ := HK.out _ HKp.out
      go_wp2_with fail
      refine (HGe.out _ (H8.out.step HF9.out)).mono ?_
      rintro r w10 ⟨rfl, hf⟩
      have HF10 := hid (HF9.out.trans hf)
      clear hf
      go_wp2_with fail
      refine (HCe.out _ (H8.out.step HF10.out)).mono ?_
      rintro r w11 ⟨rfl, hw⟩
      have hw := hw.symm
      subst hw
      go_wp2_with fail
      refine (HHd.out _ (H8.out.fr.trans HF10.out)).mono ?_
      rintro r w12 ⟨rfl, hf⟩
      have HF12 := hid (H8.out.fr.trans (HF10.out.trans hf))
      clear hf
      go_wp2_with fail
      go_ret
      exact ⟨rfl, HF12.out⟩
    · have hwt : wantE ⟨v, ze n, st⟩ (em + 1099511627776 - 1) = 21 := by
        unfold wantE mayE
        dsimp only
        rw [ze_size]
        repeat' split
        all_goals omega
      have hne : wantE ⟨v, ze n, st⟩ (em + 1099511627776 - 1) ≠ 0 := by rw [hwt]; decide
      have HP := hid (fun (q : A4) (hq : fit4 q) (W : World) (h : Hd w W S 100 []) => (show Calls Tryd.prog 8 #[.pointer (some ⟨S, 0, none⟩), .int .i64 (em + 1099511627776 - 1), .agg #[.int .i64 v, .string (ze n), .int .i64 st, .int .i64 q.c, .int .i64 q.s, .int .i64 q.m, .int .i64 q.x]] W fun r w' => r = .returned (.int .i64 (wantE ⟨v, ze n, st⟩ (em + 1099511627776 - 1))) ∧ Hd w w' S 100 [] ∧ Kp W w' from by
        have h5 := hput (em + 1099511627776 - 1) ⟨v, ze n, st⟩ q W h (by rw [ze_size]; omega) hq
        rw [(want_put hne 100 q).1, (want_put hne 100 q).2] at h5
        exact h5))
      have HKl := hid (fun (W : World) (h : Hd w W S 100 []) => (show Calls Tryd.prog 10 #[.pointer (some ⟨S, 0, none⟩), .int .i64 (em + 1099511627776 - 1), .agg #[.int .i64 v, .string (ze n), .int .i64 st]] W fun r w' => r = .returned (.int .i64 (wantE ⟨v, ze n, st⟩ (em + 1099511627776 - 1))) ∧ Hd w w' S 100 [] ∧ Kp W w' from by
        have h5 := hkill (em + 1099511627776 - 1) ⟨v, ze n, st⟩ W h (by rw [ze_size]; omega)
        rw [(want_kill hne).1, (want_kill hne).2] at h5
        exact h5))
      have HP1 := hid (HP.out (oneA 7) (oneA_fit (by unfold fits; decide)))
      have HP2 := hid (HP.out ⟨1, 2, 3, 3⟩ (by unfold fit4 fits; decide))
      have HP3 := hid (HP.out a0 (by unfold fit4 fits a0; decide))
      unfold oneA at HP1
      unfold a0 at HP3
      dsimp only at HP1 HP2 HP3
      rw [hwt] at HP1 HP2 HP3 HKl
      have HGe := hid (fun (W : World) (h : Hd w W S 100 []) => (show Calls Tryd.prog 12 #[.pointer (some ⟨S, 0, none⟩), .agg #[.int .i64 v, .string (ze n), .int .i64 st]] W fun r w' => r = .returned (.agg #[.int .i64 0, .int .i64 0, .int .i64 0, .int .i64 0]) ∧ Fr W w' (fun _ => False) from by
        obtain ⟨X, h1⟩ := h.sh
        have h5 := get_any ⟨v, ze n, st⟩ W h1 (by rw [ze_size]; omega)
        rw [tell_nil] at h5
        exact h5))
      have HU := hid (fun (W : World) (h : Hd w W S 100 []) => (show Calls Tryd.prog 11 #[.pointer (some ⟨S, 0, none⟩)] W fun r w' => r = .returned (.int .i64 0) ∧ Fr W w' (fun _ => False) from by
        obtain ⟨X, h1⟩ := h.sh
        exact unitsS_any W h1))
      have HCe := hid (fun (W : World) (h : Hd w W S 100 []) => (show Calls Tryd.prog 13 #[.pointer (some ⟨S, 0, none⟩)] W fun r w' => r = .returned (.int .i64 0) ∧ w' = W from by
        obtain ⟨X, h1⟩ := h.sh
        exact cellsS_any W h1))
      clear hwt hne HP
      have H2 := hid ((H1.out.step (alloc_fr w1 (.cells (by8 (List.replicate n 0)).toArray 5) (fun _ => False))).step (alloc_fr _ (.cells #[.int .i64 v, .string (ze n), .int .i64 st] 30) (fun _ => False)))
      have HB := hid (heap_last (w1.alloc (.cells (by8 (List.replicate n 0)).toArray 5)) (.cells #[.int .i64 v, .string (ze n), .int .i64 st] 30) (w1.heap.size + 1) (by simp))
      generalize (w1.alloc (.cells (by8 (List.replicate n 0)).toArray 5)).alloc (.cells #[.int .i64 v, .string (ze n), .int .i64 st] 30) = w3 at *
      have HK := hid (fun (W' : World) (hk : Kp w3 W') => (show (W'.cell? ⟨w1.heap.size + 1, 0, none⟩ = some (.int .i64 v) ∧ W'.cell? ⟨w1.heap.size + 1, 1, none⟩ = some (.string (ze n)) ∧ W'.cell? ⟨w1.heap.size + 1, 2, none⟩ = some (.int .i64 st)) ∧ w1.heap.size + 1 < W'.heap.size from ⟨cells3 (hk.block HB.out (by unfold okT; decide)), Nat.lt_of_lt_of_le (lt_of_block HB.out) hk.1⟩))
      have HF := hid (Fr.refl w3 (fun _ => False))
      have HKp := hid (Kp.refl w3)
      obtain ⟨⟨k0, k1, k2⟩, hbl⟩ := HK.out w3 (Kp.refl _)
      go_region_held3 (fun W' => Hid (Kp w3 W') ∧ W'.cell? ⟨w1.heap.size + 1, 0, none⟩ = some (.int .i64 v) ∧ W'.cell? ⟨w1.heap.size + 1, 1, none⟩ = some (.string (ze n)) ∧ W'.cell? ⟨w1.heap.size + 1, 2, none⟩ = some (.int .i64 st))
        ((refine (fun h => ⟨h, (HK.out _ h).1⟩ : Kp w3 _ → _) ?_; first | exact HKp.out | exact Kp.of (by repeat (first | with_reducible exact HF.out | with_reducible exact Fr.refl _ _ | with_reducible apply Fr.drew | with_reducible apply Fr.alloc))))
        ((first
          | (go_at_call 9; refine (one_any 7 _).mono ?_; rintro r w4 ⟨rfl, hf⟩; have HF := hid (Fr.trans (a := w3) (by repeat (first | with_reducible exact HF.out | with_reducible exact Fr.refl _ _ | with_reducible apply Fr.drew | with_reducible apply Fr.alloc)) hf); have HKp := hid (Kp.of HF.out); clear hf)
          | (go_at_call 8; refine (HP1.out _ (H2.out.step (by repeat (first | with_reducible exact HF.out | with_reducible exact Fr.refl _ _ | with_reducible apply Fr.drew | with_reducible apply Fr.alloc)))).mono ?_; rintro r w5 ⟨rfl, h5, hk5⟩; have H5 := hid h5; have HKp := hid ((Kp.of HF.out).trans ((Kp.of (by repeat (first | with_reducible exact Fr.refl _ _ | with_reducible apply Fr.drew))).trans hk5)); clear h5 hk5)))
      obtain ⟨⟨k0, k1, k2⟩, hbl⟩ := HK.out _ HKp.out
      go_wp2_with fail
      refine (HP2.out _ H5.out).mono ?_
      rintro r w6 ⟨rfl, h6, hk6⟩
      have H6 := hid h6
      have HKp := hid (HKp.out.trans hk6)
      clear h6 hk6
      obtain ⟨⟨k0, k1, k2⟩, hbl⟩ := HK.out _ HKp.out
      go_wp2_with fail
      refine (HP3.out _ H6.out).mono ?_
      rintro r w7 ⟨rfl, h7, hk7⟩
      have H7 := hid h7
      have HKp := hid (HKp.out.trans hk7)
      clear h7 hk7
      obtain ⟨⟨k0, k1, k2⟩, hbl⟩ := HK.out _ HKp.out
      go_wp2_with fail
      refine (HKl.out _ H7.out).mono ?_
      rintro r w8 ⟨rfl, h8, hk8⟩
      have H8 := hid h8
      have HKp := hid (HKp.out.trans hk8)
      clear h8 hk8
      obtain ⟨⟨k0, k1, k2⟩, hbl⟩ := HK.out _ HKp.out
      go_wp2_with fail
      refine (HU.out _ H8.out).mono ?_
      rintro r w9 ⟨rfl, hf⟩
      have HF9 := hid hf
      have HKp := hid (HKp.out.trans (Kp.of hf))
      clear hf
      obtain ⟨⟨k0, k1, k2⟩, hbl⟩ := HK.out _ HKp.out
      go_wp2_with fail
      refine (HGe.out _ (H8.out.step HF9.out)).mono ?_
      rintro r w10 ⟨rfl, hf⟩
      have HF10 := hid (HF9.out.trans hf)
      clear hf
      go_wp2_with fail
      refine (HCe.out _ (H8.out.step HF10.out)).mono ?_
      rintro r w11 ⟨rfl, hw⟩
      have hw := hw.symm
      subst hw
      go_wp2_with fail
      refine (HHd.out _ (H8.out.fr.trans HF10.out)).mono ?_
      rintro r w12 ⟨rfl, hf⟩
      have HF12 := hid (H8.out.fr.trans (HF10.out.trans hf))
      clear hf
      go_wp2_with fail
      go_ret
      exact ⟨rfl, HF12.out⟩
    · have hwt : wantE ⟨v, ze n, st⟩ (em + 1099511627776 - 1) = 22 := by
        unfold wantE mayE
        dsimp only
        rw [ze_size]
        repeat' split
        all_goals omega
      have hne : wantE ⟨v, ze n, st⟩ (em + 1099511627776 - 1) ≠ 0 := by rw [hwt]; decide
      have HP := hid (fun (q : A4) (hq : fit4 q) (W : World) (h : Hd w W S 100 []) => (show Calls Tryd.prog 8 #[.pointer (some ⟨S, 0, none⟩), .int .i64 (em + 1099511627776 - 1), .agg #[.int .i64 v, .string (ze n), .int .i64 st, .int .i64 q.c, .int .i64 q.s, .int .i64 q.m, .int .i64 q.x]] W fun r w' => r = .returned (.int .i64 (wantE ⟨v, ze n, st⟩ (em + 1099511627776 - 1))) ∧ Hd w w' S 100 [] ∧ Kp W w' from by
        have h5 := hput (em + 1099511627776 - 1) ⟨v, ze n, st⟩ q W h (by rw [ze_size]; omega) hq
        rw [(want_put hne 100 q).1, (want_put hne 100 q).2] at h5
        exact h5))
      have HKl := hid (fun (W : World) (h : Hd w W S 100 []) => (show Calls Tryd.prog 10 #[.pointer (some ⟨S, 0, none⟩), .int .i64 (em + 1099511627776 - 1), .agg #[.int .i64 v, .string (ze n), .int .i64 st]] W fun r w' => r = .returned (.int .i64 (wantE ⟨v, ze n, st⟩ (em + 1099511627776 - 1))) ∧ Hd w w' S 100 [] ∧ Kp W w' from by
        have h5 := hkill (em + 1099511627776 - 1) ⟨v, ze n, st⟩ W h (by rw [ze_size]; omega)
        rw [(want_kill hne).1, (want_kill hne).2] at h5
        exact h5))
      have HP1 := hid (HP.out (oneA 7) (oneA_fit (by unfold fits; decide)))
      have HP2 := hid (HP.out ⟨1, 2, 3, 3⟩ (by unfold fit4 fits; decide))
      have HP3 := hid (HP.out a0 (by unfold fit4 fits a0; decide))
      unfold oneA at HP1
      unfold a0 at HP3
      dsimp only at HP1 HP2 HP3
      rw [hwt] at HP1 HP2 HP3 HKl
      have HGe := hid (fun (W : World) (h : Hd w W S 100 []) => (show Calls Tryd.prog 12 #[.pointer (some ⟨S, 0, none⟩), .agg #[.int .i64 v, .string (ze n), .int .i64 st]] W fun r w' => r = .returned (.agg #[.int .i64 0, .int .i64 0, .int .i64 0, .int .i64 0]) ∧ Fr W w' (fun _ => False) from by
        obtain ⟨X, h1⟩ := h.sh
        have h5 := get_any ⟨v, ze n, st⟩ W h1 (by rw [ze_size]; omega)
        rw [tell_nil] at h5
        exact h5))
      have HU := hid (fun (W : World) (h : Hd w W S 100 []) => (show Calls Tryd.prog 11 #[.pointer (some ⟨S, 0, none⟩)] W fun r w' => r = .returned (.int .i64 0) ∧ Fr W w' (fun _ => False) from by
        obtain ⟨X, h1⟩ := h.sh
        exact unitsS_any W h1))
      have HCe := hid (fun (W : World) (h : Hd w W S 100 []) => (show Calls Tryd.prog 13 #[.pointer (some ⟨S, 0, none⟩)] W fun r w' => r = .returned (.int .i64 0) ∧ w' = W from by
        obtain ⟨X, h1⟩ := h.sh
        exact cellsS_any W h1))
      clear hwt hne HP
      have H2 := hid ((H1.out.step (alloc_fr w1 (.cells (by8 (List.replicate n 0)).toArray 5) (fun _ => False))).step (alloc_fr _ (.cells #[.int .i64 v, .string (ze n), .int .i64 st] 30) (fun _ => False)))
      have HB := hid (heap_last (w1.alloc (.cells (by8 (List.replicate n 0)).toArray 5)) (.cells #[.int .i64 v, .string (ze n), .int .i64 st] 30) (w1.heap.size + 1) (by simp))
      generalize (w1.alloc (.cells (by8 (List.replicate n 0)).toArray 5)).alloc (.cells #[.int .i64 v, .string (ze n), .int .i64 st] 30) = w3 at *
      have HK := hid (fun (W' : World) (hk : Kp w3 W') => (show (W'.cell? ⟨w1.heap.size + 1, 0, none⟩ = some (.int .i64 v) ∧ W'.cell? ⟨w1.heap.size + 1, 1, none⟩ = some (.string (ze n)) ∧ W'.cell? ⟨w1.heap.size + 1, 2, none⟩ = some (.int .i64 st)) ∧ w1.heap.size + 1 < W'.heap.size from ⟨cells3 (hk.block HB.out (by unfold okT; decide)), Nat.lt_of_lt_of_le (lt_of_block HB.out) hk.1⟩))
      have HF := hid (Fr.refl w3 (fun _ => False))
      have HKp := hid (Kp.refl w3)
      obtain ⟨⟨k0, k1, k2⟩, hbl⟩ := HK.out w3 (Kp.refl _)
      go_region_held3 (fun W' => Hid (Kp w3 W') ∧ W'.cell? ⟨w1.heap.size + 1, 0, none⟩ = some (.int .i64 v) ∧ W'.cell? ⟨w1.heap.size + 1, 1, none⟩ = some (.string (ze n)) ∧ W'.cell? ⟨w1.heap.size + 1, 2, none⟩ = some (.int .i64 st))
        ((refine (fun h => ⟨h, (HK.out _ h).1⟩ : Kp w3 _ → _) ?_; first | exact HKp.out | exact Kp.of (by repeat (first | with_reducible exact HF.out | with_reducible exact Fr.refl _ _ | with_reducible apply Fr.drew | with_reducible apply Fr.alloc))))
        ((first
          | (go_at_call 9; refine (one_any 7 _).mono ?_; rintro r w4 ⟨rfl, hf⟩; have HF := hid (Fr.trans (a := w3) (by repeat (first | with_reducible exact HF.out | with_reducible exact Fr.refl _ _ | with_reducible apply Fr.drew | with_reducible apply Fr.alloc)) hf); have HKp := hid (Kp.of HF.out); clear hf)
          | (go_at_call 8; refine (HP1.out _ (H2.out.step (by repeat (first | with_reducible exact HF.out | with_reducible exact Fr.refl _ _ | with_reducible apply Fr.drew | with_reducible apply Fr.alloc)))).mono ?_; rintro r w5 ⟨rfl, h5, hk5⟩; have H5 := hid h5; have HKp := hid ((Kp.of HF.out).trans ((Kp.of (by repeat (first | with_reducible exact Fr.refl _ _ | with_reducible apply Fr.drew))).trans hk5)); clear h5 hk5)))
      obtain ⟨⟨k0, k1, k2⟩, hbl⟩ := HK.out _ HKp.out
      go_wp2_with fail
      refine (HP2.out _ H5.out).mono ?_
      rintro r w6 ⟨rfl, h6, hk6⟩
      have H6 := hid h6
      have HKp := hid (HKp.out.trans hk6)
      clear h6 hk6
      obtain ⟨⟨k0, k1, k2⟩, hbl⟩ := HK.out _ HKp.out
      go_wp2_with fail
      refine (HP3.out _ H6.out).mono ?_
      rintro r w7 ⟨rfl, h7, hk7⟩
      have H7 := hid h7
      have HKp := hid (HKp.out.trans hk7)
      clear h7 hk7
      obtain ⟨⟨k0, k1, k2⟩, hbl⟩ := HK.out _ HKp.out
      go_wp2_with fail
      refine (HKl.out _ H7.out).mono ?_
      rintro r w8 ⟨rfl, h8, hk8⟩
      have H8 := hid h8
      have HKp := hid (HKp.out.trans hk8)
      clear h8 hk8
      obtain ⟨⟨k0, k1, k2⟩, hbl⟩ := HK.out _ HKp.out
      go_wp2_with fail
      refine (HU.out _ H8.out).mono ?_
      rintro r w9 ⟨rfl, hf⟩
      have HF9 := hid hf
      have HKp := hid (HKp.out.trans (Kp.of hf))
      clear hf
      obtain ⟨⟨k0, k1, k2⟩, hbl⟩ := HK.out _ HKp.out
      go_wp2_with fail
      refine (HGe.out _ (H8.out.step HF9.out)).mono ?_
      rintro r w10 ⟨rfl, hf⟩
      have HF10 := hid (HF9.out.trans hf)
      clear hf
      go_wp2_with fail
      refine (HCe.out _ (H8.out.step HF10.out)).mono ?_
      rintro r w11 ⟨rfl, hw⟩
      have hw := hw.symm
      subst hw
      go_wp2_with fail
      refine (HHd.out _ (H8.out.fr.trans HF10.out)).mono ?_
      rintro r w12 ⟨rfl, hf⟩
      have HF12 := hid (H8.out.fr.trans (HF10.out.trans hf))
      clear hf
      go_wp2_with fail
      go_ret
      exact ⟨rfl, HF12.out⟩
    · have hwt : wantE ⟨v, ze n, st⟩ (em + 1099511627776 - 1) = 1 := by
        unfold wantE mayE
        dsimp only
        rw [ze_size]
        repeat' split
        all_goals omega
      have hne : wantE ⟨v, ze n, st⟩ (em + 1099511627776 - 1) ≠ 0 := by rw [hwt]; decide
      have HP := hid (fun (q : A4) (hq : fit4 q) (W : World) (h : Hd w W S 100 []) => (show Calls Tryd.prog 8 #[.pointer (some ⟨S, 0, none⟩), .int .i64 (em + 1099511627776 - 1), .agg #[.int .i64 v, .string (ze n), .int .i64 st, .int .i64 q.c, .int .i64 q.s, .int .i64 q.m, .int .i64 q.x]] W fun r w' => r = .returned (.int .i64 (wantE ⟨v, ze n, st⟩ (em + 1099511627776 - 1))) ∧ Hd w w' S 100 [] ∧ Kp W w' from by
        have h5 := hput (em + 1099511627776 - 1) ⟨v, ze n, st⟩ q W h (by rw [ze_size]; omega) hq
        rw [(want_put hne 100 q).1, (want_put hne 100 q).2] at h5
        exact h5))
      have HKl := hid (fun (W : World) (h : Hd w W S 100 []) => (show Calls Tryd.prog 10 #[.pointer (some ⟨S, 0, none⟩), .int .i64 (em + 1099511627776 - 1), .agg #[.int .i64 v, .string (ze n), .int .i64 st]] W fun r w' => r = .returned (.int .i64 (wantE ⟨v, ze n, st⟩ (em + 1099511627776 - 1))) ∧ Hd w w' S 100 [] ∧ Kp W w' from by
        have h5 := hkill (em + 1099511627776 - 1) ⟨v, ze n, st⟩ W h (by rw [ze_size]; omega)
        rw [(want_kill hne).1, (want_kill hne).2] at h5
        exact h5))
      have HP1 := hid (HP.out (oneA 7) (oneA_fit (by unfold fits; decide)))
      have HP2 := hid (HP.out ⟨1, 2, 3, 3⟩ (by unfold fit4 fits; decide))
      have HP3 := hid (HP.out a0 (by unfold fit4 fits a0; decide))
      unfold oneA at HP1
      unfold a0 at HP3
      dsimp only at HP1 HP2 HP3
      rw [hwt] at HP1 HP2 HP3 HKl
      have HGe := hid (fun (W : World) (h : Hd w W S 100 []) => (show Calls Tryd.prog 12 #[.pointer (some ⟨S, 0, none⟩), .agg #[.int .i64 v, .string (ze n), .int .i64 st]] W fun r w' => r = .returned (.agg #[.int .i64 0, .int .i64 0, .int .i64 0, .int .i64 0]) ∧ Fr W w' (fun _ => False) from by
        obtain ⟨X, h1⟩ := h.sh
        have h5 := get_any ⟨v, ze n, st⟩ W h1 (by rw [ze_size]; omega)
        rw [tell_nil] at h5
        exact h5))
      have HU := hid (fun (W : World) (h : Hd w W S 100 []) => (show Calls Tryd.prog 11 #[.pointer (some ⟨S, 0, none⟩)] W fun r w' => r = .returned (.int .i64 0) ∧ Fr W w' (fun _ => False) from by
        obtain ⟨X, h1⟩ := h.sh
        exact unitsS_any W h1))
      have HCe := hid (fun (W : World) (h : Hd w W S 100 []) => (show Calls Tryd.prog 13 #[.pointer (some ⟨S, 0, none⟩)] W fun r w' => r = .returned (.int .i64 0) ∧ w' = W from by
        obtain ⟨X, h1⟩ := h.sh
        exact cellsS_any W h1))
      clear hwt hne HP
      have H2 := hid ((H1.out.step (alloc_fr w1 (.cells (by8 (List.replicate n 0)).toArray 5) (fun _ => False))).step (alloc_fr _ (.cells #[.int .i64 v, .string (ze n), .int .i64 st] 30) (fun _ => False)))
      have HB := hid (heap_last (w1.alloc (.cells (by8 (List.replicate n 0)).toArray 5)) (.cells #[.int .i64 v, .string (ze n), .int .i64 st] 30) (w1.heap.size + 1) (by simp))
      generalize (w1.alloc (.cells (by8 (List.replicate n 0)).toArray 5)).alloc (.cells #[.int .i64 v, .string (ze n), .int .i64 st] 30) = w3 at *
      have HK := hid (fun (W' : World) (hk : Kp w3 W') => (show (W'.cell? ⟨w1.heap.size + 1, 0, none⟩ = some (.int .i64 v) ∧ W'.cell? ⟨w1.heap.size + 1, 1, none⟩ = some (.string (ze n)) ∧ W'.cell? ⟨w1.heap.size + 1, 2, none⟩ = some (.int .i64 st)) ∧ w1.heap.size + 1 < W'.heap.size from ⟨cells3 (hk.block HB.out (by unfold okT; decide)), Nat.lt_of_lt_of_le (lt_of_block HB.out) hk.1⟩))
      have HF := hid (Fr.refl w3 (fun _ => False))
      have HKp := hid (Kp.refl w3)
      obtain ⟨⟨k0, k1, k2⟩, hbl⟩ := HK.out w3 (Kp.refl _)
      go_region_held3 (fun W' => Hid (Kp w3 W') ∧ W'.cell? ⟨w1.heap.size + 1, 0, none⟩ = some (.int .i64 v) ∧ W'.cell? ⟨w1.heap.size + 1, 1, none⟩ = some (.string (ze n)) ∧ W'.cell? ⟨w1.heap.size + 1, 2, none⟩ = some (.int .i64 st))
        ((refine (fun h => ⟨h, (HK.out _ h).1⟩ : Kp w3 _ → _) ?_; first | exact HKp.out | exact Kp.of (by repeat (first | with_reducible exact HF.out | with_reducible exact Fr.refl _ _ | with_reducible apply Fr.drew | with_reducible apply Fr.alloc))))
        ((first
          | (go_at_call 9; refine (one_any 7 _).mono ?_; rintro r w4 ⟨rfl, hf⟩; have HF := hid (Fr.trans (a := w3) (by repeat (first | with_reducible exact HF.out | with_reducible exact Fr.refl _ _ | with_reducible apply Fr.drew | with_reducible apply Fr.alloc)) hf); have HKp := hid (Kp.of HF.out); clear hf)
          | (go_at_call 8; refine (HP1.out _ (H2.out.step (by repeat (first | with_reducible exact HF.out | with_reducible exact Fr.refl _ _ | with_reducible apply Fr.drew | with_reducible apply Fr.alloc)))).mono ?_; rintro r w5 ⟨rfl, h5, hk5⟩; have H5 := hid h5; have HKp := hid ((Kp.of HF.out).trans ((Kp.of (by repeat (first | with_reducible exact Fr.refl _ _ | with_reducible apply Fr.drew))).trans hk5)); clear h5 hk5)))
      obtain ⟨⟨k0, k1, k2⟩, hbl⟩ := HK.out _ HKp.out
      go_wp2_with fail
      refine (HP2.out _ H5.out).mono ?_
      rintro r w6 ⟨rfl, h6, hk6⟩
      have H6 := hid h6
      have HKp := hid (HKp.out.trans hk6)
      clear h6 hk6
      obtain ⟨⟨k0, k1, k2⟩, hbl⟩ := HK.out _ HKp.out
      go_wp2_with fail
      refine (HP3.out _ H6.out).mono ?_
      rintro r w7 ⟨rfl, h7, hk7⟩
      have H7 := hid h7
      have HKp := hid (HKp.out.trans hk7)
      clear h7 hk7
      obtain ⟨⟨k0, k1, k2⟩, hbl⟩ := HK.out _ HKp.out
      go_wp2_with fail
      refine (HKl.out _ H7.out).mono ?_
      rintro r w8 ⟨rfl, h8, hk8⟩
      have H8 := hid h8
      have HKp := hid (HKp.out.trans hk8)
      clear h8 hk8
      obtain ⟨⟨k0, k1, k2⟩, hbl⟩ := HK.out _ HKp.out
      go_wp2_with fail
      refine (HU.out _ H8.out).mono ?_
      rintro r w9 ⟨rfl, hf⟩
      have HF9 := hid hf
      have HKp := hid (HKp.out.trans (Kp.of hf))
      clear hf
      obtain ⟨⟨k0, k1, k2⟩, hbl⟩ := HK.out _ HKp.out
      go_wp2_with fail
      refine (HGe.out _ (H8.out.step HF9.out)).mono ?_
      rintro r w10 ⟨rfl, hf⟩
      have HF10 := hid (HF9.out.trans hf)
      clear hf
      go_wp2_with fail
      refine (HCe.out _ (H8.out.step HF10.out)).mono ?_
      rintro r w11 ⟨rfl, hw⟩
      have hw := hw.symm
      subst hw
      go_wp2_with fail
      refine (HHd.out _ (H8.out.fr.trans HF10.out)).mono ?_
      rintro r w12 ⟨rfl, hf⟩
      have HF12 := hid (H8.out.fr.trans (HF10.out.trans hf))
      clear hf
      go_wp2_with fail
      go_ret
      exact ⟨rfl, HF12.out⟩
    · have hwt : wantE ⟨v, ze n, st⟩ (em + 1099511627776 - 1) = 0 := by
        unfold wantE mayE
        dsimp only
        rw [ze_size]
        repeat' split
        all_goals omega
      have hok := edge_ok (c := ⟨v, ze n, st⟩) (e := em + 1099511627776 - 1) hwt (by omega)
      have HP1 := hid (fun (W : World) (h : Hd w W S 100 []) => hput (em + 1099511627776 - 1) ⟨v, ze n, st⟩ (oneA 7) W h (by rw [ze_size]; omega) (oneA_fit (by unfold fits; decide)))
      rw [hok.1.1, hok.1.2] at HP1
      have HPb := hid (fun (q : A4) (hq : fit4 q) (hb : q.c = 0 ∨ rightA q = false) (W : World) (h : Hd w W S 100 [(⟨v, ze n, st⟩, [⟨em + 1099511627776 - 1, true, oneA 7⟩])]) => (show Calls Tryd.prog 8 #[.pointer (some ⟨S, 0, none⟩), .int .i64 (em + 1099511627776 - 1), .agg #[.int .i64 v, .string (ze n), .int .i64 st, .int .i64 q.c, .int .i64 q.s, .int .i64 q.m, .int .i64 q.x]] W fun r w' => r = .returned (.int .i64 1) ∧ Hd w w' S 100 [(⟨v, ze n, st⟩, [⟨em + 1099511627776 - 1, true, oneA 7⟩])] ∧ Kp W w' from by
        have h5 := hput (em + 1099511627776 - 1) ⟨v, ze n, st⟩ q W h (by rw [ze_size]; omega) hq
        rw [(hok.2.1 q hb).1, (hok.2.1 q hb).2] at h5
        exact h5))
      have HP2 := hid (HPb.out ⟨1, 2, 3, 3⟩ (by unfold fit4 fits; decide) (Or.inr (by decide)))
      have HP3 := hid (HPb.out a0 (by unfold fit4 fits a0; decide) (Or.inl rfl))
      have HKl := hid (fun (W : World) (h : Hd w W S 100 [(⟨v, ze n, st⟩, [⟨em + 1099511627776 - 1, true, oneA 7⟩])]) => hkill (em + 1099511627776 - 1) ⟨v, ze n, st⟩ W h (by rw [ze_size]; omega))
      rw [hok.2.2.1.1, hok.2.2.1.2] at HKl
      have HU := hid (fun (W : World) (h : Hd w W S 100 [(⟨v, ze n, st⟩, [⟨em + 1099511627776 - 1, false, a0⟩])]) => (show Calls Tryd.prog 11 #[.pointer (some ⟨S, 0, none⟩)] W fun r w' => r = .returned (.int .i64 1) ∧ Fr W w' (fun _ => False) from by
        obtain ⟨X, h1⟩ := h.sh
        have h5 := unitsS_any W h1
        rw [hok.2.2.2.1] at h5
        exact h5))
      have HK1 := hid (fun (W : World) (h : Hd w W S 100 [(⟨v, ze n, st⟩, [⟨em + 1099511627776 - 1, false, a0⟩])]) => hkill (em + 1099511627776 - 1) ⟨v, ze n, st⟩ W h (by rw [ze_size]; omega))
      rw [hok.2.2.2.2.1.1, hok.2.2.2.2.1.2] at HK1
      have HK2 := hid (fun (W : World) (h : Hd w W S 100 [(⟨v, ze n, st⟩, [⟨em + 1099511627776 - 1, false, a0⟩])]) => hkill (em + 1099511627776 - 1 - 1) ⟨v, ze n, st⟩ W h (by rw [ze_size]; omega))
      rw [hok.2.2.2.2.2.1, hok.2.2.2.2.2.2] at HK2
      unfold oneA at HP1
      unfold a0 at HP3
      dsimp only at HP1 HP2 HP3 HKl HK1 HK2
      clear hwt hok HPb
      have H2 := hid ((H1.out.step (alloc_fr w1 (.cells (by8 (List.replicate n 0)).toArray 5) (fun _ => False))).step (alloc_fr _ (.cells #[.int .i64 v, .string (ze n), .int .i64 st] 30) (fun _ => False)))
      have HB := hid (heap_last (w1.alloc (.cells (by8 (List.replicate n 0)).toArray 5)) (.cells #[.int .i64 v, .string (ze n), .int .i64 st] 30) (w1.heap.size + 1) (by simp))
      generalize (w1.alloc (.cells (by8 (List.replicate n 0)).toArray 5)).alloc (.cells #[.int .i64 v, .string (ze n), .int .i64 st] 30) = w3 at *
      have HK := hid (fun (W' : World) (hk : Kp w3 W') => (show (W'.cell? ⟨w1.heap.size + 1, 0, none⟩ = some (.int .i64 v) ∧ W'.cell? ⟨w1.heap.size + 1, 1, none⟩ = some (.string (ze n)) ∧ W'.cell? ⟨w1.heap.size + 1, 2, none⟩ = some (.int .i64 st)) ∧ w1.heap.size + 1 < W'.heap.size from ⟨cells3 (hk.block HB.out (by unfold okT; decide)), Nat.lt_of_lt_of_le (lt_of_block HB.out) hk.1⟩))
      have HF := hid (Fr.refl w3 (fun _ => False))
      have HKp := hid (Kp.refl w3)
      obtain ⟨⟨k0, k1, k2⟩, hbl⟩ := HK.out w3 (Kp.refl _)
      go_region_held3 (fun W' => Hid (Kp w3 W') ∧ W'.cell? ⟨w1.heap.size + 1, 0, none⟩ = some (.int .i64 v) ∧ W'.cell? ⟨w1.heap.size + 1, 1, none⟩ = some (.string (ze n)) ∧ W'.cell? ⟨w1.heap.size + 1, 2, none⟩ = some (.int .i64 st))
        ((refine (fun h => ⟨h, (HK.out _ h).1⟩ : Kp w3 _ → _) ?_; first | exact HKp.out | exact Kp.of (by repeat (first | with_reducible exact HF.out | with_reducible exact Fr.refl _ _ | with_reducible apply Fr.drew | with_reducible apply Fr.alloc))))
        ((first
          | (go_at_call 9; refine (one_any 7 _).mono ?_; rintro r w4 ⟨rfl, hf⟩; have HF := hid (Fr.trans (a := w3) (by repeat (first | with_reducible exact HF.out | with_reducible exact Fr.refl _ _ | with_reducible apply Fr.drew | with_reducible apply Fr.alloc)) hf); have HKp := hid (Kp.of HF.out); clear hf)
          | (go_at_call 8; refine (HP1.out _ (H2.out.step (by repeat (first | with_reducible exact HF.out | with_reducible exact Fr.refl _ _ | with_reducible apply Fr.drew | with_reducible apply Fr.alloc)))).mono ?_; rintro r w5 ⟨rfl, h5, hk5⟩; have H5 := hid h5; have HKp := hid ((Kp.of HF.out).trans ((Kp.of (by repeat (first | with_reducible exact Fr.refl _ _ | with_reducible apply Fr.drew))).trans hk5)); clear h5 hk5)))
      obtain ⟨⟨k0, k1, k2⟩, hbl⟩ := HK.out _ HKp.out
      go_wp2_with fail
      refine (HP2.out _ H5.out).mono ?_
      rintro r w6 ⟨rfl, h6, hk6⟩
      have H6 := hid h6
      have HKp := hid (HKp.out.trans hk6)
      clear h6 hk6
      obtain ⟨⟨k0, k1, k2⟩, hbl⟩ := HK.out _ HKp.out
      go_wp2_with fail
      refine (HP3.out _ H6.out).mono ?_
      rintro r w7 ⟨rfl, h7, hk7⟩
      have H7 := hid h7
      have HKp := hid (HKp.out.trans hk7)
      clear h7 hk7
      obtain ⟨⟨k0, k1, k2⟩, hbl⟩ := HK.out _ HKp.out
      go_wp2_with fail
      refine (HKl.out _ H7.out).mono ?_
      rintro r w8 ⟨rfl, h8, hk8⟩
      have H8 := hid h8
      have HKp := hid (HKp.out.trans hk8)
      clear h8 hk8
      obtain ⟨⟨k0, k1, k2⟩, hbl⟩ := HK.out _ HKp.out
      go_wp2_with fail
      refine (HU.out _ H8.out).mono ?_
      rintro r w9 ⟨rfl, hf⟩
      have HF9 := hid hf
      have HKp := hid (HKp.out.trans (Kp.of hf))
      clear hf
      obtain ⟨⟨k0, k1, k2⟩, hbl⟩ := HK.out _ HKp.out
      go_wp2_with fail
      refine (HK1.out _ (H8.out.step HF9.out)).mono ?_
      rintro r w10 ⟨rfl, h10, hk10⟩
      have H10 := hid h10
      have HKp := hid (HKp.out.trans hk10)
      clear h10 hk10
      obtain ⟨⟨k0, k1, k2⟩, hbl⟩ := HK.out _ HKp.out
      go_wp2_with fail
      refine (HK2.out _ H10.out).mono ?_
      rintro r w11 ⟨rfl, h11, _⟩
      have H11 := hid h11
      clear h11
      go_wp2_with fail
      refine (HHd.out _ H11.out.fr).mono ?_
      rintro r w12 ⟨rfl, hf⟩
      have HF12 := hid (H11.out.fr.trans hf)
      clear hf
      go_wp2_with fail
      go_ret
      exact ⟨rfl, HF12.out⟩
    · have hwt : wantE ⟨v, ze n, st⟩ (em + 1099511627776 - 1) = 22 := by
        unfold wantE mayE
        dsimp only
        rw [ze_size]
        repeat' split
        all_goals omega
      have hne : wantE ⟨v, ze n, st⟩ (em + 1099511627776 - 1) ≠ 0 := by rw [hwt]; decide
      have HP := hid (fun (q : A4) (hq : fit4 q) (W : World) (h : Hd w W S 100 []) => (show Calls Tryd.prog 8 #[.pointer (some ⟨S, 0, none⟩), .int .i64 (em + 1099511627776 - 1), .agg #[.int .i64 v, .string (ze n), .int .i64 st, .int .i64 q.c, .int .i64 q.s, .int .i64 q.m, .int .i64 q.x]] W fun r w' => r = .returned (.int .i64 (wantE ⟨v, ze n, st⟩ (em + 1099511627776 - 1))) ∧ Hd w w' S 100 [] ∧ Kp W w' from by
        have h5 := hput (em + 1099511627776 - 1) ⟨v, ze n, st⟩ q W h (by rw [ze_size]; omega) hq
        rw [(want_put hne 100 q).1, (want_put hne 100 q).2] at h5
        exact h5))
      have HKl := hid (fun (W : World) (h : Hd w W S 100 []) => (show Calls Tryd.prog 10 #[.pointer (some ⟨S, 0, none⟩), .int .i64 (em + 1099511627776 - 1), .agg #[.int .i64 v, .string (ze n), .int .i64 st]] W fun r w' => r = .returned (.int .i64 (wantE ⟨v, ze n, st⟩ (em + 1099511627776 - 1))) ∧ Hd w w' S 100 [] ∧ Kp W w' from by
        have h5 := hkill (em + 1099511627776 - 1) ⟨v, ze n, st⟩ W h (by rw [ze_size]; omega)
        rw [(want_kill hne).1, (want_kill hne).2] at h5
        exact h5))
      have HP1 := hid (HP.out (oneA 7) (oneA_fit (by unfold fits; decide)))
      have HP2 := hid (HP.out ⟨1, 2, 3, 3⟩ (by unfold fit4 fits; decide))
      have HP3 := hid (HP.out a0 (by unfold fit4 fits a0; decide))
      unfold oneA at HP1
      unfold a0 at HP3
      dsimp only at HP1 HP2 HP3
      rw [hwt] at HP1 HP2 HP3 HKl
      have HGe := hid (fun (W : World) (h : Hd w W S 100 []) => (show Calls Tryd.prog 12 #[.pointer (some ⟨S, 0, none⟩), .agg #[.int .i64 v, .string (ze n), .int .i64 st]] W fun r w' => r = .returned (.agg #[.int .i64 0, .int .i64 0, .int .i64 0, .int .i64 0]) ∧ Fr W w' (fun _ => False) from by
        obtain ⟨X, h1⟩ := h.sh
        have h5 := get_any ⟨v, ze n, st⟩ W h1 (by rw [ze_size]; omega)
        rw [tell_nil] at h5
        exact h5))
      have HU := hid (fun (W : World) (h : Hd w W S 100 []) => (show Calls Tryd.prog 11 #[.pointer (some ⟨S, 0, none⟩)] W fun r w' => r = .returned (.int .i64 0) ∧ Fr W w' (fun _ => False) from by
        obtain ⟨X, h1⟩ := h.sh
        exact unitsS_any W h1))
      have HCe := hid (fun (W : World) (h : Hd w W S 100 []) => (show Calls Tryd.prog 13 #[.pointer (some ⟨S, 0, none⟩)] W fun r w' => r = .returned (.int .i64 0) ∧ w' = W from by
        obtain ⟨X, h1⟩ := h.sh
        exact cellsS_any W h1))
      clear hwt hne HP
      have H2 := hid ((H1.out.step (alloc_fr w1 (.cells (by8 (List.replicate n 0)).toArray 5) (fun _ => False))).step (alloc_fr _ (.cells #[.int .i64 v, .string (ze n), .int .i64 st] 30) (fun _ => False)))
      have HB := hid (heap_last (w1.alloc (.cells (by8 (List.replicate n 0)).toArray 5)) (.cells #[.int .i64 v, .string (ze n), .int .i64 st] 30) (w1.heap.size + 1) (by simp))
      generalize (w1.alloc (.cells (by8 (List.replicate n 0)).toArray 5)).alloc (.cells #[.int .i64 v, .string (ze n), .int .i64 st] 30) = w3 at *
      have HK := hid (fun (W' : World) (hk : Kp w3 W') => (show (W'.cell? ⟨w1.heap.size + 1, 0, none⟩ = some (.int .i64 v) ∧ W'.cell? ⟨w1.heap.size + 1, 1, none⟩ = some (.string (ze n)) ∧ W'.cell? ⟨w1.heap.size + 1, 2, none⟩ = some (.int .i64 st)) ∧ w1.heap.size + 1 < W'.heap.size from ⟨cells3 (hk.block HB.out (by unfold okT; decide)), Nat.lt_of_lt_of_le (lt_of_block HB.out) hk.1⟩))
      have HF := hid (Fr.refl w3 (fun _ => False))
      have HKp := hid (Kp.refl w3)
      obtain ⟨⟨k0, k1, k2⟩, hbl⟩ := HK.out w3 (Kp.refl _)
      go_region_held3 (fun W' => Hid (Kp w3 W') ∧ W'.cell? ⟨w1.heap.size + 1, 0, none⟩ = some (.int .i64 v) ∧ W'.cell? ⟨w1.heap.size + 1, 1, none⟩ = some (.string (ze n)) ∧ W'.cell? ⟨w1.heap.size + 1, 2, none⟩ = some (.int .i64 st))
        ((refine (fun h => ⟨h, (HK.out _ h).1⟩ : Kp w3 _ → _) ?_; first | exact HKp.out | exact Kp.of (by repeat (first | with_reducible exact HF.out | with_reducible exact Fr.refl _ _ | with_reducible apply Fr.drew | with_reducible apply Fr.alloc))))
        ((first
          | (go_at_call 9; refine (one_any 7 _).mono ?_; rintro r w4 ⟨rfl, hf⟩; have HF := hid (Fr.trans (a := w3) (by repeat (first | with_reducible exact HF.out | with_reducible exact Fr.refl _ _ | with_reducible apply Fr.drew | with_reducible apply Fr.alloc)) hf); have HKp := hid (Kp.of HF.out); clear hf)
          | (go_at_call 8; refine (HP1.out _ (H2.out.step (by repeat (first | with_reducible exact HF.out | with_reducible exact Fr.refl _ _ | with_reducible apply Fr.drew | with_reducible apply Fr.alloc)))).mono ?_; rintro r w5 ⟨rfl, h5, hk5⟩; have H5 := hid h5; have HKp := hid ((Kp.of HF.out).trans ((Kp.of (by repeat (first | with_reducible exact Fr.refl _ _ | with_reducible apply Fr.drew))).trans hk5)); clear h5 hk5)))
      obtain ⟨⟨k0, k1, k2⟩, hbl⟩ := HK.out _ HKp.out
      go_wp2_with fail
      refine (HP2.out _ H5.out).mono ?_
      rintro r w6 ⟨rfl, h6, hk6⟩
      have H6 := hid h6
      have HKp := hid (HKp.out.trans hk6)
      clear h6 hk6
      obtain ⟨⟨k0, k1, k2⟩, hbl⟩ := HK.out _ HKp.out
      go_wp2_with fail
      refine (HP3.out _ H6.out).mono ?_
      rintro r w7 ⟨rfl, h7, hk7⟩
      have H7 := hid h7
      have HKp := hid (HKp.out.trans hk7)
      clear h7 hk7
      obtain ⟨⟨k0, k1, k2⟩, hbl⟩ := HK.out _ HKp.out
      go_wp2_with fail
      refine (HKl.out _ H7.out).mono ?_
      rintro r w8 ⟨rfl, h8, hk8⟩
      have H8 := hid h8
      have HKp := hid (HKp.out.trans hk8)
      clear h8 hk8
      obtain ⟨⟨k0, k1, k2⟩, hbl⟩ := HK.out _ HKp.out
      go_wp2_with fail
      refine (HU.out _ H8.out).mono ?_
      rintro r w9 ⟨rfl, hf⟩
      have HF9 := hid hf
      have HKp := hid (HKp.out.trans (Kp.of hf))
      clear hf
      obtain ⟨⟨k0, k1, k2⟩, hbl⟩ := HK.out _ HKp.out
      go_wp2_with fail
      refine (HGe.out _ (H8.out.step HF9.out)).mono ?_
      rintro r w10 ⟨rfl, hf⟩
      have HF10 := hid (HF9.out.trans hf)
      clear hf
      go_wp2_with fail
      refine (HCe.out _ (H8.out.step HF10.out)).mono ?_
      rintro r w11 ⟨rfl, hw⟩
      have hw := hw.symm
      subst hw
      go_wp2_with fail
      refine (HHd.out _ (H8.out.fr.trans HF10.out)).mono ?_
      rintro r w12 ⟨rfl, hf⟩
      have HF12 := hid (H8.out.fr.trans (HF10.out.trans hf))
      clear hf
      go_wp2_with fail
      go_ret
      exact ⟨rfl, HF12.out⟩
    · have hwt : wantE ⟨v, ze n, st⟩ (em + 1099511627776 - 1) = 21 := by
        unfold wantE mayE
        dsimp only
        rw [ze_size]
        repeat' split
        all_goals omega
      have hne : wantE ⟨v, ze n, st⟩ (em + 1099511627776 - 1) ≠ 0 := by rw [hwt]; decide
      have HP := hid (fun (q : A4) (hq : fit4 q) (W : World) (h : Hd w W S 100 []) => (show Calls Tryd.prog 8 #[.pointer (some ⟨S, 0, none⟩), .int .i64 (em + 1099511627776 - 1), .agg #[.int .i64 v, .string (ze n), .int .i64 st, .int .i64 q.c, .int .i64 q.s, .int .i64 q.m, .int .i64 q.x]] W fun r w' => r = .returned (.int .i64 (wantE ⟨v, ze n, st⟩ (em + 1099511627776 - 1))) ∧ Hd w w' S 100 [] ∧ Kp W w' from by
        have h5 := hput (em + 1099511627776 - 1) ⟨v, ze n, st⟩ q W h (by rw [ze_size]; omega) hq
        rw [(want_put hne 100 q).1, (want_put hne 100 q).2] at h5
        exact h5))
      have HKl := hid (fun (W : World) (h : Hd w W S 100 []) => (show Calls Tryd.prog 10 #[.pointer (some ⟨S, 0, none⟩), .int .i64 (em + 1099511627776 - 1), .agg #[.int .i64 v, .string (ze n), .int .i64 st]] W fun r w' => r = .returned (.int .i64 (wantE ⟨v, ze n, st⟩ (em + 1099511627776 - 1))) ∧ Hd w w' S 100 [] ∧ Kp W w' from by
        have h5 := hkill (em + 1099511627776 - 1) ⟨v, ze n, st⟩ W h (by rw [ze_size]; omega)
        rw [(want_kill hne).1, (want_kill hne).2] at h5
        exact h5))
      have HP1 := hid (HP.out (oneA 7) (oneA_fit (by unfold fits; decide)))
      have HP2 := hid (HP.out ⟨1, 2, 3, 3⟩ (by unfold fit4 fits; decide))
      have HP3 := hid (HP.out a0 (by unfold fit4 fits a0; decide))
      unfold oneA at HP1
      unfold a0 at HP3
      dsimp only at HP1 HP2 HP3
      rw [hwt] at HP1 HP2 HP3 HKl
      have HGe := hid (fun (W : World) (h : Hd w W S 100 []) => (show Calls Tryd.prog 12 #[.pointer (some ⟨S, 0, none⟩), .agg #[.int .i64 v, .string (ze n), .int .i64 st]] W fun r w' => r = .returned (.agg #[.int .i64 0, .int .i64 0, .int .i64 0, .int .i64 0]) ∧ Fr W w' (fun _ => False) from by
        obtain ⟨X, h1⟩ := h.sh
        have h5 := get_any ⟨v, ze n, st⟩ W h1 (by rw [ze_size]; omega)
        rw [tell_nil] at h5
        exact h5))
      have HU := hid (fun (W : World) (h : Hd w W S 100 []) => (show Calls Tryd.prog 11 #[.pointer (some ⟨S, 0, none⟩)] W fun r w' => r = .returned (.int .i64 0) ∧ Fr W w' (fun _ => False) from by
        obtain ⟨X, h1⟩ := h.sh
        exact unitsS_any W h1))
      have HCe := hid (fun (W : World) (h : Hd w W S 100 []) => (show Calls Tryd.prog 13 #[.pointer (some ⟨S, 0, none⟩)] W fun r w' => r = .returned (.int .i64 0) ∧ w' = W from by
        obtain ⟨X, h1⟩ := h.sh
        exact cellsS_any W h1))
      clear hwt hne HP
      have H2 := hid ((H1.out.step (alloc_fr w1 (.cells (by8 (List.replicate n 0)).toArray 5) (fun _ => False))).step (alloc_fr _ (.cells #[.int .i64 v, .string (ze n), .int .i64 st] 30) (fun _ => False)))
      have HB := hid (heap_last (w1.alloc (.cells (by8 (List.replicate n 0)).toArray 5)) (.cells #[.int .i64 v, .string (ze n), .int .i64 st] 30) (w1.heap.size + 1) (by simp))
      generalize (w1.alloc (.cells (by8 (List.replicate n 0)).toArray 5)).alloc (.cells #[.int .i64 v, .string (ze n), .int .i64 st] 30) = w3 at *
      have HK := hid (fun (W' : World) (hk : Kp w3 W') => (show (W'.cell? ⟨w1.heap.size + 1, 0, none⟩ = some (.int .i64 v) ∧ W'.cell? ⟨w1.heap.size + 1, 1, none⟩ = some (.string (ze n)) ∧ W'.cell? ⟨w1.heap.size + 1, 2, none⟩ = some (.int .i64 st)) ∧ w1.heap.size + 1 < W'.heap.size from ⟨cells3 (hk.block HB.out (by unfold okT; decide)), Nat.lt_of_lt_of_le (lt_of_block HB.out) hk.1⟩))
      have HF := hid (Fr.refl w3 (fun _ => False))
      have HKp := hid (Kp.refl w3)
      obtain ⟨⟨k0, k1, k2⟩, hbl⟩ := HK.out w3 (Kp.refl _)
      go_region_held3 (fun W' => Hid (Kp w3 W') ∧ W'.cell? ⟨w1.heap.size + 1, 0, none⟩ = some (.int .i64 v) ∧ W'.cell? ⟨w1.heap.size + 1, 1, none⟩ = some (.string (ze n)) ∧ W'.cell? ⟨w1.heap.size + 1, 2, none⟩ = some (.int .i64 st))
        ((refine (fun h => ⟨h, (HK.out _ h).1⟩ : Kp w3 _ → _) ?_; first | exact HKp.out | exact Kp.of (by repeat (first | with_reducible exact HF.out | with_reducible exact Fr.refl _ _ | with_reducible apply Fr.drew | with_reducible apply Fr.alloc))))
        ((first
          | (go_at_call 9; refine (one_any 7 _).mono ?_; rintro r w4 ⟨rfl, hf⟩; have HF := hid (Fr.trans (a := w3) (by repeat (first | with_reducible exact HF.out | with_reducible exact Fr.refl _ _ | with_reducible apply Fr.drew | with_reducible apply Fr.alloc)) hf); have HKp := hid (Kp.of HF.out); clear hf)
          | (go_at_call 8; refine (HP1.out _ (H2.out.step (by repeat (first | with_reducible exact HF.out | with_reducible exact Fr.refl _ _ | with_reducible apply Fr.drew | with_reducible apply Fr.alloc)))).mono ?_; rintro r w5 ⟨rfl, h5, hk5⟩; have H5 := hid h5; have HKp := hid ((Kp.of HF.out).trans ((Kp.of (by repeat (first | with_reducible exact Fr.refl _ _ | with_reducible apply Fr.drew))).trans hk5)); clear h5 hk5)))
      obtain ⟨⟨k0, k1, k2⟩, hbl⟩ := HK.out _ HKp.out
      go_wp2_with fail
      refine (HP2.out _ H5.out).mono ?_
      rintro r w6 ⟨rfl, h6, hk6⟩
      have H6 := hid h6
      have HKp := hid (HKp.out.trans hk6)
      clear h6 hk6
      obtain ⟨⟨k0, k1, k2⟩, hbl⟩ := HK.out _ HKp.out
      go_wp2_with fail
      refine (HP3.out _ H6.out).mono ?_
      rintro r w7 ⟨rfl, h7, hk7⟩
      have H7 := hid h7
      have HKp := hid (HKp.out.trans hk7)
      clear h7 hk7
      obtain ⟨⟨k0, k1, k2⟩, hbl⟩ := HK.out _ HKp.out
      go_wp2_with fail
      refine (HKl.out _ H7.out).mono ?_
      rintro r w8 ⟨rfl, h8, hk8⟩
      have H8 := hid h8
      have HKp := hid (HKp.out.trans hk8)
      clear h8 hk8
      obtain ⟨⟨k0, k1, k2⟩, hbl⟩ := HK.out _ HKp.out
      go_wp2_with fail
      refine (HU.out _ H8.out).mono ?_
      rintro r w9 ⟨rfl, hf⟩
      have HF9 := hid hf
      have HKp := hid (HKp.out.trans (Kp.of hf))
      clear hf
      obtain ⟨⟨k0, k1, k2⟩, hbl⟩ := HK.out _ HKp.out
      go_wp2_with fail
      refine (HGe.out _ (H8.out.step HF9.out)).mono ?_
      rintro r w10 ⟨rfl, hf⟩
      have HF10 := hid (HF9.out.trans hf)
      clear hf
      go_wp2_with fail
      refine (HCe.out _ (H8.out.step HF10.out)).mono ?_
      rintro r w11 ⟨rfl, hw⟩
      have hw := hw.symm
      subst hw
      go_wp2_with fail
      refine (HHd.out _ (H8.out.fr.trans HF10.out)).mono ?_
      rintro r w12 ⟨rfl, hf⟩
      have HF12 := hid (H8.out.fr.trans (HF10.out.trans hf))
      clear hf
      go_wp2_with fail
      go_ret
      exact ⟨rfl, HF12.out⟩
    · have hwt : wantE ⟨v, ze n, st⟩ (em + 1099511627776 - 1) = 23 := by
        unfold wantE mayE
        dsimp only
        rw [ze_size]
        repeat' split
        all_goals omega
      have hne : wantE ⟨v, ze n, st⟩ (em + 1099511627776 - 1) ≠ 0 := by rw [hwt]; decide
      have HP := hid (fun (q : A4) (hq : fit4 q) (W : World) (h : Hd w W S 100 []) => (show Calls Tryd.prog 8 #[.pointer (some ⟨S, 0, none⟩), .int .i64 (em + 1099511627776 - 1), .agg #[.int .i64 v, .string (ze n), .int .i64 st, .int .i64 q.c, .int .i64 q.s, .int .i64 q.m, .int .i64 q.x]] W fun r w' => r = .returned (.int .i64 (wantE ⟨v, ze n, st⟩ (em + 1099511627776 - 1))) ∧ Hd w w' S 100 [] ∧ Kp W w' from by
        have h5 := hput (em + 1099511627776 - 1) ⟨v, ze n, st⟩ q W h (by rw [ze_size]; omega) hq
        rw [(want_put hne 100 q).1, (want_put hne 100 q).2] at h5
        exact h5))
      have HKl := hid (fun (W : World) (h : Hd w W S 100 []) => (show Calls Tryd.prog 10 #[.pointer (some ⟨S, 0, none⟩), .int .i64 (em + 1099511627776 - 1), .agg #[.int .i64 v, .string (ze n), .int .i64 st]] W fun r w' => r = .returned (.int .i64 (wantE ⟨v, ze n, st⟩ (em + 1099511627776 - 1))) ∧ Hd w w' S 100 [] ∧ Kp W w' from by
        have h5 := hkill (em + 1099511627776 - 1) ⟨v, ze n, st⟩ W h (by rw [ze_size]; omega)
        rw [(want_kill hne).1, (want_kill hne).2] at h5
        exact h5))
      have HP1 := hid (HP.out (oneA 7) (oneA_fit (by unfold fits; decide)))
      have HP2 := hid (HP.out ⟨1, 2, 3, 3⟩ (by unfold fit4 fits; decide))
      have HP3 := hid (HP.out a0 (by unfold fit4 fits a0; decide))
      unfold oneA at HP1
      unfold a0 at HP3
      dsimp only at HP1 HP2 HP3
      rw [hwt] at HP1 HP2 HP3 HKl
      have HGe := hid (fun (W : World) (h : Hd w W S 100 []) => (show Calls Tryd.prog 12 #[.pointer (some ⟨S, 0, none⟩), .agg #[.int .i64 v, .string (ze n), .int .i64 st]] W fun r w' => r = .returned (.agg #[.int .i64 0, .int .i64 0, .int .i64 0, .int .i64 0]) ∧ Fr W w' (fun _ => False) from by
        obtain ⟨X, h1⟩ := h.sh
        have h5 := get_any ⟨v, ze n, st⟩ W h1 (by rw [ze_size]; omega)
        rw [tell_nil] at h5
        exact h5))
      have HU := hid (fun (W : World) (h : Hd w W S 100 []) => (show Calls Tryd.prog 11 #[.pointer (some ⟨S, 0, none⟩)] W fun r w' => r = .returned (.int .i64 0) ∧ Fr W w' (fun _ => False) from by
        obtain ⟨X, h1⟩ := h.sh
        exact unitsS_any W h1))
      have HCe := hid (fun (W : World) (h : Hd w W S 100 []) => (show Calls Tryd.prog 13 #[.pointer (some ⟨S, 0, none⟩)] W fun r w' => r = .returned (.int .i64 0) ∧ w' = W from by
        obtain ⟨X, h1⟩ := h.sh
        exact cellsS_any W h1))
      clear hwt hne HP
      have H2 := hid ((H1.out.step (alloc_fr w1 (.cells (by8 (List.replicate n 0)).toArray 5) (fun _ => False))).step (alloc_fr _ (.cells #[.int .i64 v, .string (ze n), .int .i64 st] 30) (fun _ => False)))
      have HB := hid (heap_last (w1.alloc (.cells (by8 (List.replicate n 0)).toArray 5)) (.cells #[.int .i64 v, .string (ze n), .int .i64 st] 30) (w1.heap.size + 1) (by simp))
      generalize (w1.alloc (.cells (by8 (List.replicate n 0)).toArray 5)).alloc (.cells #[.int .i64 v, .string (ze n), .int .i64 st] 30) = w3 at *
      have HK := hid (fun (W' : World) (hk : Kp w3 W') => (show (W'.cell? ⟨w1.heap.size + 1, 0, none⟩ = some (.int .i64 v) ∧ W'.cell? ⟨w1.heap.size + 1, 1, none⟩ = some (.string (ze n)) ∧ W'.cell? ⟨w1.heap.size + 1, 2, none⟩ = some (.int .i64 st)) ∧ w1.heap.size + 1 < W'.heap.size from ⟨cells3 (hk.block HB.out (by unfold okT; decide)), Nat.lt_of_lt_of_le (lt_of_block HB.out) hk.1⟩))
      have HF := hid (Fr.refl w3 (fun _ => False))
      have HKp := hid (Kp.refl w3)
      obtain ⟨⟨k0, k1, k2⟩, hbl⟩ := HK.out w3 (Kp.refl _)
      go_region_held3 (fun W' => Hid (Kp w3 W') ∧ W'.cell? ⟨w1.heap.size + 1, 0, none⟩ = some (.int .i64 v) ∧ W'.cell? ⟨w1.heap.size + 1, 1, none⟩ = some (.string (ze n)) ∧ W'.cell? ⟨w1.heap.size + 1, 2, none⟩ = some (.int .i64 st))
        ((refine (fun h => ⟨h, (HK.out _ h).1⟩ : Kp w3 _ → _) ?_; first | exact HKp.out | exact Kp.of (by repeat (first | with_reducible exact HF.out | with_reducible exact Fr.refl _ _ | with_reducible apply Fr.drew | with_reducible apply Fr.alloc))))
        ((first
          | (go_at_call 9; refine (one_any 7 _).mono ?_; rintro r w4 ⟨rfl, hf⟩; have HF := hid (Fr.trans (a := w3) (by repeat (first | with_reducible exact HF.out | with_reducible exact Fr.refl _ _ | with_reducible apply Fr.drew | with_reducible apply Fr.alloc)) hf); have HKp := hid (Kp.of HF.out); clear hf)
          | (go_at_call 8; refine (HP1.out _ (H2.out.step (by repeat (first | with_reducible exact HF.out | with_reducible exact Fr.refl _ _ | with_reducible apply Fr.drew | with_reducible apply Fr.alloc)))).mono ?_; rintro r w5 ⟨rfl, h5, hk5⟩; have H5 := hid h5; have HKp := hid ((Kp.of HF.out).trans ((Kp.of (by repeat (first | with_reducible exact Fr.refl _ _ | with_reducible apply Fr.drew))).trans hk5)); clear h5 hk5)))
      obtain ⟨⟨k0, k1, k2⟩, hbl⟩ := HK.out _ HKp.out
      go_wp2_with fail
      refine (HP2.out _ H5.out).mono ?_
      rintro r w6 ⟨rfl, h6, hk6⟩
      have H6 := hid h6
      have HKp := hid (HKp.out.trans hk6)
      clear h6 hk6
      obtain ⟨⟨k0, k1, k2⟩, hbl⟩ := HK.out _ HKp.out
      go_wp2_with fail
      refine (HP3.out _ H6.out).mono ?_
      rintro r w7 ⟨rfl, h7, hk7⟩
      have H7 := hid h7
      have HKp := hid (HKp.out.trans hk7)
      clear h7 hk7
      obtain ⟨⟨k0, k1, k2⟩, hbl⟩ := HK.out _ HKp.out
      go_wp2_with fail
      refine (HKl.out _ H7.out).mono ?_
      rintro r w8 ⟨rfl, h8, hk8⟩
      have H8 := hid h8
      have HKp := hid (HKp.out.trans hk8)
      clear h8 hk8
      obtain ⟨⟨k0, k1, k2⟩, hbl⟩ := HK.out _ HKp.out
      go_wp2_with fail
      refine (HU.out _ H8.out).mono ?_
      rintro r w9 ⟨rfl, hf⟩
      have HF9 := hid hf
      have HKp := hid (HKp.out.trans (Kp.of hf))
      clear hf
      obtain ⟨⟨k0, k1, k2⟩, hbl⟩ := HK.out _ HKp.out
      go_wp2_with fail
      refine (HGe.out _ (H8.out.step HF9.out)).mono ?_
      rintro r w10 ⟨rfl, hf⟩
      have HF10 := hid (HF9.out.trans hf)
      clear hf
      go_wp2_with fail
      refine (HCe.out _ (H8.out.step HF10.out)).mono ?_
      rintro r w11 ⟨rfl, hw⟩
      have hw := hw.symm
      subst hw
      go_wp2_with fail
      refine (HHd.out _ (H8.out.fr.trans HF10.out)).mono ?_
      rintro r w12 ⟨rfl, hf⟩
      have HF12 := hid (H8.out.fr.trans (HF10.out.trans hf))
      clear hf
      go_wp2_with fail
      go_ret
      exact ⟨rfl, HF12.out⟩
end Go.Proofs.YtcjadgnefojjgaaDoor.S
