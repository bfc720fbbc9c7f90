import Derived.Test.YtahcbkkjlfdffaaMRefC
/- The document's Cell: a walk. -/
namespace Go.Proofs.Ytahcbkkjlfdffaa.M
open Go.RowKit

theorem cellE_eq (v : Nat) (t : List Nat) : cellE (v :: t) =
    if (cut t).1 ≠ 0 then ((cut t).1, c0) else if (cut t).2.2.length < 8 then (11, c0) else if 8 < (cut t).2.2.length then (13, c0) else
    (mE ⟨v, str8 (cut t).2.1, (num (cut t).2.2 : Int) - 9223372036854775808⟩, ⟨v, str8 (cut t).2.1, (num (cut t).2.2 : Int) - 9223372036854775808⟩) := rfl
theorem num_drop_take {s : ByteArray} {m i : Nat} (h : m + i < s.size) : num (((nums8 s).drop m).take (i + 1)) = num (((nums8 s).drop m).take i) * 256 + (nums8 s).getD (m + i) 0 := by
  have h2 : i < ((nums8 s).drop m).length := by rw [List.length_drop, nums8_length]; omega
  rw [List.take_succ_eq_append_getElem h2, num_snoc]
  congr 1
  simp
  have h3 : m + i < (nums8 s).length := by rw [nums8_length]; exact h
  simp [h3]
theorem num_drop_lt (s : ByteArray) (m i : Nat) (h : i ≤ 7) : num (((nums8 s).drop m).take i) < 72057594037927936 := by
  have h1 := num_lt (((nums8 s).drop m).take i) (fun x hx => nums8_byte s x (List.mem_of_mem_drop (List.mem_of_mem_take hx)))
  have h2 : 256 ^ (((nums8 s).drop m).take i).length ≤ 256 ^ 7 := Nat.pow_le_pow_right (by decide) (by rw [List.length_take]; omega)
  have h3 : (256 : Nat) ^ 7 = 72057594037927936 := by decide
  omega
theorem sub_back (n : Nat) (h : n < 18446744073709551616) : wrap64 (IntKind.u64.wrap ((n : Int) - 9223372036854775808)) = (n : Int) - 9223372036854775808 := by
  rw [IntKind.wrap_u64]
  unfold wrap64
  omega

set_option maxHeartbeats 4000000 in
set_option maxRecDepth 100000 in
theorem rcell_any (s : ByteArray) (w : World) (hs : s.size ≤ 140737488355327) :
    Calls Try.prog 13 #[.string s] w fun e w' => e = .returned (.tuple #[vC (cellE (nums8 s)).2, .int .i64 (cellE (nums8 s)).1]) ∧ Fr w w' (fun _ => False) := by
  by_cases h0 : s.size = 0
  · have hs0 : s = ⟨#[]⟩ := by
      apply ByteArray.ext
      exact Array.eq_empty_of_size_eq_zero h0
    subst hs0
    have e0 : cellE (nums8 ⟨#[]⟩) = (11, c0) := rfl
    rw [e0]
    dsimp only
    rw [vc0]
    go_enter Try.func13, Try.ntmps13
    go_wp2_with fail
    go_returns
    exact ⟨rfl, by repeat (first | exact Fr.refl _ _ | apply Fr.alloc | apply Fr.drew)⟩
  · have hpos : 0 < s.size := by omega
    have hcons := nums8_cons hpos
    rw [nums8_extract] at hcons
    have HC0 : Hid (comb [] (cut ((nums8 s).drop 1)) = cut ((nums8 s).drop 1)) := cut_nil_comb _ (cut_err _ _ (Nat.le_refl _))
    have hv := nums8_at hpos
    have hvl := nums8_lt s 0
    have HE : Hid (cellE (nums8 s) = if (cut ((nums8 s).drop 1)).1 ≠ 0 then ((cut ((nums8 s).drop 1)).1, c0) else if (cut ((nums8 s).drop 1)).2.2.length < 8 then (11, c0) else if 8 < (cut ((nums8 s).drop 1)).2.2.length then (13, c0) else
      (mE ⟨((nums8 s).getD 0 0 : Nat), str8 (cut ((nums8 s).drop 1)).2.1, (num (cut ((nums8 s).drop 1)).2.2 : Int) - 9223372036854775808⟩, ⟨((nums8 s).getD 0 0 : Nat), str8 (cut ((nums8 s).drop 1)).2.1, (num (cut ((nums8 s).drop 1)).2.2 : Int) - 9223372036854775808⟩)) := by
      show cellE (nums8 s) = _
      conv => lhs; rw [hcons]
      rw [cellE_eq]
    clear hcons
    generalize (nums8 s).getD 0 0 = v at *
    have HC1 : Hid (comb [] (cut ((nums8 s).drop 1)) = cut ((nums8 s).drop 1)) := HC0
    clear HC0
    generalize hR : cut ((nums8 s).drop 1) = R at *
    have HC0 : Hid (comb [] (cut ((nums8 s).drop 1)) = R) := by
      show _ = _
      rw [hR]
      exact HC1.out
    clear hR HC1
    generalize cellE (nums8 s) = Z at *
    have t0 : ((s.size : Int) == 0) = false := beq_eq_false_iff_ne.2 (by omega)
    have t00 : (0 : Int) < (s.size : Int) := by omega
    have HF1 := hid (alloc_fr w (.cells #[.int .i64 0, .string ⟨#[]⟩, .int .i64 0] 23) (fun _ => False))
    have HB1 := hid (heap_last w (.cells #[.int .i64 0, .string ⟨#[]⟩, .int .i64 0] 23) _ rfl)
    go_enter Try.func13, Try.ntmps13
    go_wp2_with fail
    generalize w.alloc (.cells #[.int .i64 0, .string ⟨#[]⟩, .int .i64 0] 23) = wa at *
    have HNw : Hid (w.heap.size ≤ w.heap.size) := Nat.le_refl _
    generalize hN : w.heap.size = N at HB1 HNw ⊢
    rw [← hN] at HNw
    have HNw : Hid (w.heap.size ≤ N) := by show w.heap.size ≤ N; omega
    clear hN
    go_loopg [4, 5] s.size (fun g s4 s5 wx => ∃ (i : Nat) (acc : List Nat), s5 = .int .i64 (i : Int) ∧ 1 ≤ i ∧ i ≤ s.size ∧ s.size - i ≤ g ∧ acc.length ≤ i ∧ Hid (Bo wa wx s4 acc) ∧ Hid (comb acc (cut ((nums8 s).drop i)) = R))
    case atStart => exact ⟨1, [], rfl, by omega, by omega, by omega, by simp, ⟨⟨rfl, Or.inl ⟨rfl, rfl⟩⟩, Fr.refl _ _⟩, HC0⟩
    case round =>
      obtain ⟨i, acc, rfl, hi1, hi, hg, hal, HB, HR⟩ := hrel
      clear HC0
      obtain ⟨ao, cap, rfl⟩ := HB.out.shape
      have HBk : Hid (wr.heap[N]? = some (.cells #[.int .i64 0, .string ⟨#[]⟩, .int .i64 0] 23 (0, 0))) := by
        show wr.heap[N]? = _
        rw [HB.out.2.block _ (lt_of_block HB1.out) (fun h => h)]
        exact HB1.out
      obtain ⟨z0, z1, z2⟩ := cells3 HBk.out
      have zl := lt_of_block HBk.out
      have zf : ∀ o, wr.frozen? ⟨N, o, none⟩ = false := fun o => by simp [World.frozen?, HBk.out]
      by_cases h1 : i < s.size
      · have t1 : ¬ (s.size : Int) ≤ (i : Int) := by omega
        have t11 : (i : Int) < (s.size : Int) := by omega
        have hx := nums8_at h1
        have hxl := nums8_lt s i
        have hd := drop_at h1
        rw [hd] at HR
        clear hd
        generalize (nums8 s).getD i 0 = x at *
        by_cases hx0 : x = 0
        · subst hx0
          obtain ⟨j, hj⟩ : ∃ j, j = i + 1 := ⟨_, rfl⟩
          obtain ⟨k, hk⟩ : ∃ k, k = i + 2 := ⟨_, rfl⟩
          have e1 : (i : Int) + 1 = (j : Int) := by omega
          have e2 : (i : Int) + 2 = (k : Int) := by omega
          by_cases h2 : j < s.size
          · have t2 : ¬ (s.size : Int) ≤ (j : Int) := by omega
            have t3 : (j : Int) < (s.size : Int) := by omega
            have hy := nums8_at h2
            have hyl := nums8_lt s j
            have hd := drop_at h2
            rw [← hj, hd, show j + 1 = k by omega] at HR
            clear hd
            generalize (nums8 s).getD j 0 = y at *
            by_cases hy1 : y = 1
            · subst hy1
              have hR : R = (0, acc, (nums8 s).drop k) := by
                rw [← HR.out, cut_z, if_pos rfl]
                unfold comb
                rw [if_pos rfl]
                simp
              have HE2 := HE.out
              rw [hR] at HE2
              dsimp only at HE2
              rw [if_neg (by decide)] at HE2
              have HKl : Hid (((nums8 s).drop k).length = s.size - k) := by show _ = _; rw [List.length_drop, nums8_length]
              rw [HKl.out] at HE2
              have HE3 := hid HE2
              clear HE2 hR HR HE
              have hks : k ≤ s.size := by omega
              by_cases h8 : s.size - k < 8
              · have t8 : (s.size : Int) - (k : Int) < 8 := by omega
                have HZ : Hid (Z = (11, c0)) := by show Z = _; rw [HE3.out, if_pos h8]
                clear HE3 hj hk
                go_wp2_with fail
                refine bodyPost_ret (resC Try.results13 _ _ rfl (set3 HBk.out)) rfl ?_
                rw [HZ.out]
                exact ⟨rfl, by repeat (first | exact HF1.out.trans HB.out.2 | apply Fr.alloc | apply Fr.drew | refine Fr.setCell ?_ (fun h => absurd h (by have := HNw.out; simp only; omega)) _)⟩
              · have t8 : ¬ (s.size : Int) - (k : Int) < 8 := by omega
                by_cases h9 : 8 < s.size - k
                · have t9 : (8 : Int) < (s.size : Int) - (k : Int) := by omega
                  have HZ : Hid (Z = (13, c0)) := by show Z = _; rw [HE3.out, if_neg h8, if_pos h9]
                  clear HE3 hj hk
                  go_wp2_with fail
                  refine bodyPost_ret (resC Try.results13 _ _ rfl (set3 HBk.out)) rfl ?_
                  rw [HZ.out]
                  exact ⟨rfl, by repeat (first | exact HF1.out.trans HB.out.2 | apply Fr.alloc | apply Fr.drew | refine Fr.setCell ?_ (fun h => absurd h (by have := HNw.out; simp only; omega)) _)⟩
                · have t9 : ¬ (8 : Int) < (s.size : Int) - (k : Int) := by omega
                  have h88 : s.size - k = 8 := by omega
                  have HZ : Hid (Z = (mE ⟨(v : Int), str8 acc, (num ((nums8 s).drop k) : Int) - 9223372036854775808⟩, ⟨(v : Int), str8 acc, (num ((nums8 s).drop k) : Int) - 9223372036854775808⟩)) := by show Z = _; rw [HE3.out, if_neg h8, if_neg h9]
                  have HW := hid (fun W => wrong_any ⟨(v : Int), str8 acc, (num ((nums8 s).drop k) : Int) - 9223372036854775808⟩ W (by show (str8 acc).size ≤ _; rw [str8_size]; omega))
                  have HNl : Hid (num (((nums8 s).drop k).take 8) = num ((nums8 s).drop k)) := by
                    show _ = _
                    rw [List.take_of_length_le (by rw [HKl.out]; omega)]
                  have HSb := hid (sub_back (num ((nums8 s).drop k)) (by
                    have q1 := num_lt ((nums8 s).drop k) (fun x hx => nums8_byte s x (List.mem_of_mem_drop hx))
                    rw [HKl.out, h88] at q1
                    have q3 : (256 : Nat) ^ 8 = 18446744073709551616 := by decide
                    omega))
                  unfold vC at HW
                  dsimp only at HW
                  generalize hcc : (⟨(v : Int), str8 acc, (num ((nums8 s).drop k) : Int) - 9223372036854775808⟩ : Cl) = cc at *
                  have HV : Hid (vC cc = .agg #[.int .i64 (v : Int), .string (str8 acc), .int .i64 ((num ((nums8 s).drop k) : Int) - 9223372036854775808)]) := by show vC cc = _; rw [← hcc]; rfl
                  clear hcc HE3 hj
                  have HKk := hid hk
                  clear hk
                  go_wp2_with fail
                  go_loopg [6, 7] 8 (fun g s6 s7 wx => ∃ q : Nat, s7 = .int .i64 (q : Int) ∧ s6 = .int .u64 (num (((nums8 s).drop k).take q) : Int) ∧ q + g = 8 ∧ wx = wr)
                  case atStart => exact ⟨0, rfl, rfl, by omega, rfl⟩
                  case round =>
                    obtain ⟨q, rfl, rfl, hg2, rfl⟩ := hrel
                    cases gk with
                    | zero =>
                      obtain rfl : q = 8 := by omega
                      rw [HNl.out]
                      clear HNl
                      generalize num ((nums8 s).drop k) = nn at *
                      have hwv : IntKind.i64.wrap (v : Int) = (v : Int) := by rw [IntKind.wrap_i64]; omega
                      have hsb := HSb.out
                      have hcv := run_str8 (w := wr.drew) Try.underlying36 Try.underlying5 Try.underlying9 (own_bs (HB.out.fr ((Fr.refl _ _).drew)).1)
                      have hcv2 := run_str8 (w := (wr.alloc (.cells #[.int .i64 0, .string ⟨#[]⟩, .int .i64 0] 23)).drew) Try.underlying36 Try.underlying5 Try.underlying9 (own_bs (HB.out.fr ((alloc_fr _ _ _).drew)).1)
                      go_upto_region 27 with (fail)
                      go_cut [8] (fun s8 wx => ∃ N1, s8 = .pointer (some ⟨N1, 0, none⟩) ∧ Hid (Fr wr wx (fun _ => False) ∧ wx.heap[N1]? = some (.cells #[.int .i64 (v : Int), .string (str8 acc), .int .i64 ((nn : Int) - 9223372036854775808)] 23 (0, 0)) ∧ wr.heap.size ≤ N1))
                      case first =>
                        go_region
                        all_goals (go_wp2_with fail)
                        all_goals go_meet
                        all_goals exact ⟨_, rfl, by repeat (first | exact Fr.refl _ _ | apply Fr.alloc | apply Fr.drew), heap_last _ _ _ (by simp), by simp⟩
                      case rest =>
                        obtain ⟨N1, rfl, HQ⟩ := hcut
                        have HB2 := hid HQ.out.2.1
                        have HF2 := hid HQ.out.1
                        have HB3 : Hid (wc.heap[N]? = some (.cells #[.int .i64 0, .string ⟨#[]⟩, .int .i64 0] 23 (0, 0))) := by
                          show wc.heap[N]? = _
                          rw [HF2.out.block _ (lt_of_block HBk.out) (fun h => h)]
                          exact HBk.out
                        have hNN : N ≠ N1 := by have := HQ.out.2.2; omega
                        have hNN2 : N1 ≠ N := fun e => hNN e.symm
                        have HFw : Hid (Fr w wc (fun _ => False)) := HF1.out.trans (HB.out.2.trans HF2.out)
                        clear z0 z1 z2 zl zf HQ hcv hcv2 HB HBk HF1 HB1
                        obtain ⟨z0, z1, z2⟩ := cells3 HB3.out
                        have zl := lt_of_block HB3.out
                        have zf : ∀ o, wc.frozen? ⟨N, o, none⟩ = false := fun o => by simp [World.frozen?, HB3.out]
                        obtain ⟨b0, b1, b2⟩ := cells3 HB2.out
                        have bl := lt_of_block HB2.out
                        generalize (nn : Int) - 9223372036854775808 = st at *
                        generalize str8 acc = kk at *
                        generalize mE cc = me at *
                        go_wp2_with fail
                        go_region_with (go_at_call 30; refine (HW.out _).mono ?_; rintro e w3 ⟨rfl, hf⟩; have p0 : w3.cell? ⟨N, 0, none⟩ = some (.int .i64 0) := ((fr_rules hf).1 _ _ zl).trans z0; have p1 : w3.cell? ⟨N, 1, none⟩ = some (.string ⟨#[]⟩) := ((fr_rules hf).1 _ _ zl).trans z1; have p2 : w3.cell? ⟨N, 2, none⟩ = some (.int .i64 0) := ((fr_rules hf).1 _ _ zl).trans z2; have p3 : w3.cell? ⟨N1, 0, none⟩ = some (.int .i64 (v : Int)) := ((fr_rules hf).1 _ _ bl).trans b0; have p4 : w3.cell? ⟨N1, 1, none⟩ = some (.string kk) := ((fr_rules hf).1 _ _ bl).trans b1; have p5 : w3.cell? ⟨N1, 2, none⟩ = some (.int .i64 st) := ((fr_rules hf).1 _ _ bl).trans b2; have pl : N < w3.heap.size := Nat.lt_of_lt_of_le zl hf.size; have pf0 : w3.frozen? ⟨N, 0, none⟩ = false := ((fr_rules hf).2 _ _ zl).trans (zf 0); have pf1 : w3.frozen? ⟨N, 1, none⟩ = false := ((fr_rules hf).2 _ _ zl).trans (zf 1); have pf2 : w3.frozen? ⟨N, 2, none⟩ = false := ((fr_rules hf).2 _ _ zl).trans (zf 2); have HP : Hid (Fr w w3 (fun _ => False) ∧ w3.heap[N]? = some (.cells #[.int .i64 0, .string ⟨#[]⟩, .int .i64 0] 23 (0, 0))) := ⟨HFw.out.trans (((Fr.refl wc (fun _ => False)).drew).trans hf), (hf.block _ zl (fun h => h)).trans HB3.out⟩; clear hf)
                        all_goals (
                          go_wp2_with fail
                          refine bodyPost_ret (resC Try.results13 _ _ rfl (set3 HP.out.2)) rfl ?_
                          rw [HZ.out]
                          dsimp only
                          rw [HV.out]
                          exact ⟨rfl, by repeat (first | exact HP.out.1 | apply Fr.alloc | apply Fr.drew | refine Fr.setCell ?_ (fun h => absurd h (by have := HNw.out; simp only; omega)) _)⟩)
                    | succ g =>
                      have hq8 : q < 8 := by omega
                      obtain ⟨p, hp⟩ : ∃ p, p = k + q := ⟨_, rfl⟩
                      have e3 : (k : Int) + (q : Int) = (p : Int) := by omega
                      have hps : p < s.size := by omega
                      have t10 : (q : Int) < 8 := by omega
                      have t12 : (p : Int) < (s.size : Int) := by omega
                      have HG := hid hg2
                      have hx2 := nums8_at hps
                      have hxl2 := nums8_lt s p
                      have HT : Hid (num (((nums8 s).drop k).take (q + 1)) = num (((nums8 s).drop k).take q) * 256 + (nums8 s).getD p 0) := by
                        show _ = _
                        rw [num_drop_take (by omega), hp]
                      have HO := hid (or_b8 (num (((nums8 s).drop k).take q)) ((nums8 s).getD p 0) (num_drop_lt s k q (by omega)) hxl2)
                      generalize (nums8 s).getD p 0 = x2 at *
                      generalize num (((nums8 s).drop k).take q) = m at *
                      clear hg2 hp
                      go_wp2_with fail
                      go_roundg g
                      case measure => omega
                      case rel => exact ⟨q + 1, by go_num, by rw [HT.out, HO.out], by have := HG.out; omega, rfl⟩
            · have t4 : ((y : Int) == 1) = false := by simp; omega
              by_cases hy2 : y = 255
              · subst hy2
                have HR2 : Hid (comb (acc ++ [0]) (cut ((nums8 s).drop k)) = R) := by
                  show _ = _
                  rw [← comb_z]
                  exact HR.out
                have HX1 := hid (HB.out.fr (alloc_fr wr (.cells #[.int .u8 0] 5) (fun _ => False)))
                have HKs : Hid (1 ≤ k ∧ k ≤ s.size) := by show 1 ≤ k ∧ k ≤ s.size; omega
                have HGk : Hid (s.size - k < gk) := by show s.size - k < gk; omega
                have HAl : Hid ((acc ++ [0]).length ≤ k) := by show (acc ++ [0]).length ≤ k; simp; omega
                clear HR HB hj hk
                go_wp2_with (at_builtin; go_must (refine wpl_bo (wb := wa) rfl (.tmp 49) (.tmp 50) rfl _ acc rfl wr.heap.size 1 [0] rfl ?c1 ?c2 ?c3 ?_))
                case c1 => (try simp only [List.length_cons, List.length_nil]); omega
                case c2 => exact HX1.out
                case c3 => first | (rw [heap_last _ _ _ rfl]; simp [by8]) | exact Option.some.inj ((Array.getElem?_eq_getElem _).symm.trans (heap_last _ _ _ rfl))
                intro v' w3 hX3
                have HX3 := hid hX3
                obtain ⟨ao3, cap3, rfl⟩ := hX3.shape
                clear hX3 HX1
                go_wp2_with fail
                go_roundg (gk - 1)
                case measure => have := HGk.out; omega
                case rel => exact ⟨k, acc ++ [0], by first | rfl | go_num, HKs.out.1, HKs.out.2, by have := HGk.out; omega, HAl.out, HX3, HR2⟩
              · have t5 : ((y : Int) != 255) = true := by simp; omega
                have HZ : Hid (Z = (12, c0)) := by
                  have hr : R = (12, [], []) := by
                    rw [← HR.out, cut_z, if_neg hy1, if_pos hy2]
                    rfl
                  show Z = _
                  rw [HE.out, hr]
                  rfl
                clear HR HE hj hk
                go_wp2_with fail
                refine bodyPost_ret (resC Try.results13 _ _ rfl (set3 HBk.out)) rfl ?_
                rw [HZ.out]
                exact ⟨rfl, by repeat (first | exact HF1.out.trans HB.out.2 | apply Fr.alloc | apply Fr.drew | refine Fr.setCell ?_ (fun h => absurd h (by have := HNw.out; simp only; omega)) _)⟩
          · have t2 : (s.size : Int) ≤ (j : Int) := by omega
            have HZ : Hid (Z = (11, c0)) := by
              have hr : R = (11, [], []) := by
                rw [← HR.out, ← hj, List.drop_eq_nil_of_le (by rw [nums8_length]; omega), cut_zz]
                rfl
              show Z = _
              rw [HE.out, hr]
              rfl
            clear HR HE hj hk
            go_wp2_with fail
            refine bodyPost_ret (resC Try.results13 _ _ rfl (set3 HBk.out)) rfl ?_
            rw [HZ.out]
            exact ⟨rfl, by repeat (first | exact HF1.out.trans HB.out.2 | apply Fr.alloc | apply Fr.drew | refine Fr.setCell ?_ (fun h => absurd h (by have := HNw.out; simp only; omega)) _)⟩
        · have t2 : ((x : Int) != 0) = true := by simp; omega
          have HR2 : Hid (comb (acc ++ [x]) (cut ((nums8 s).drop (i + 1))) = R) := by
            show _ = _
            rw [← comb_ne _ _ hx0]
            exact HR.out
          have HX1 := hid (HB.out.fr (alloc_fr wr (.cells #[.int .u8 (x : Int)] 5) (fun _ => False)))
          clear HR HB
          go_wp2_with (at_builtin; go_must (refine wpl_bo (wb := wa) rfl (.tmp 22) (.tmp 26) rfl _ acc rfl wr.heap.size 1 [x] rfl ?c1 ?c2 ?c3 ?_))
          case c1 => (try simp only [List.length_cons, List.length_nil]); omega
          case c2 => exact HX1.out
          case c3 => first | (rw [heap_last _ _ _ rfl]; simp [by8]) | exact Option.some.inj ((Array.getElem?_eq_getElem _).symm.trans (heap_last _ _ _ rfl))
          intro v' w3 hX3
          have HX3 := hid hX3
          obtain ⟨ao3, cap3, rfl⟩ := hX3.shape
          clear hX3 HX1
          go_wp2_with fail
          go_roundg (gk - 1)
          case measure => omega
          case rel => exact ⟨i + 1, acc ++ [x], by go_num, by omega, by omega, by omega, by simp; omega, HX3, HR2⟩
      · have t1 : (s.size : Int) ≤ (i : Int) := by omega
        have HZ : Hid (Z = (11, c0)) := by
          have hr : R = (11, [], []) := by
            rw [← HR.out, List.drop_eq_nil_of_le (by rw [nums8_length]; omega)]
            rfl
          show Z = _
          rw [HE.out, hr]
          rfl
        clear HR HE
        go_wp2_with fail
        refine bodyPost_ret (resC Try.results13 _ _ rfl (set3 HBk.out)) rfl ?_
        rw [HZ.out]
        exact ⟨rfl, by repeat (first | exact HF1.out.trans HB.out.2 | apply Fr.alloc | apply Fr.drew | refine Fr.setCell ?_ (fun h => absurd h (by have := HNw.out; simp only; omega)) _)⟩
end Go.Proofs.Ytahcbkkjlfdffaa.M
