/- WireBack: the walk. -/
import Derived.Test.YtdhobmnljniccabReads2
import Derived.Test.YtdhobmnljniccabIsE
import Derived.Test.YtdhobmnljniccabKept
import Derived.Test.YtdhobmnljniccabLend
import Derived.Test.YtdhobmnljniccabHead
import Derived.Test.YtdhobmnljniccabFnew
namespace Go.Proofs.Ytdhobmnljniccab
open Go.RowKit

theorem sev_b8 : ∀ (g n : Nat), n < 2 * 128 ^ g → ∀ j, (sev g n).getD j 0 < 256
  | 0, n, h, j => by
    rw [sev]
    match j with
    | 0 => simp at h ⊢; omega
    | j + 1 => simp
  | g + 1, n, h, j => by
    by_cases h1 : 128 ≤ n
    · rw [sev_more g n h1]
      have hp : 128 ^ (g + 1) = 128 ^ g * 128 := Nat.pow_succ ..
      rw [hp] at h
      match j with
      | 0 => simp; omega
      | j + 1 => simpa using sev_b8 g (n / 128) (by omega) j
    · rw [sev_last _ n (by omega)]
      match j with
      | 0 => simp; omega
      | j + 1 => simp
theorem nums8_b8 (s : ByteArray) (j : Nat) : (nums8 s).getD j 0 < 256 := by
  unfold nums8
  rcases Nat.lt_or_ge j s.data.toList.length with h | h
  · simp only [List.getD, List.getElem?_map, List.getElem?_eq_getElem h, Option.map_some, Option.getD_some]
    exact UInt8.toNat_lt _
  · rw [List.getD, List.getElem?_eq_none (by simpa using h)]
    decide
theorem encC_b8 (c : CallV) (h : c.fine) (j : Nat) : (encC c).getD j 0 < 256 := by
  obtain ⟨⟨_, n1⟩, ⟨i0, i1⟩, _, hs⟩ := h
  unfold encC
  split
  · exact sev_b8 9 _ (by omega) j
  · split
    · have := zig_lt c.i i0 i1
      exact sev_b8 9 _ (by omega) j
    · split
      · exact getD_append_lt (sev_b8 9 _ (by omega)) (nums8_b8 c.s) j
      · simp
theorem encL_b8 (cs : List CallV) (h : ∀ c ∈ cs, c.fine) (j : Nat) : (encL cs).getD j 0 < 256 := by
  induction cs generalizing j with
  | nil => simp [encL]
  | cons c r ih => exact getD_append_lt (encC_b8 c (h c (by simp))) (ih (fun c hc => h c (by simp [hc]))) j
theorem encC_len (c : CallV) (h : c.fine) : (encC c).length ≤ 1048586 := by
  obtain ⟨_, _, _, hs⟩ := h
  unfold encC
  have h1 := fun n => (sev_length 9 n).1
  split
  · have := h1 c.n.toNat; omega
  · split
    · have := h1 (zig c.i); omega
    · split
      · rw [List.length_append, nums8_length]
        have := h1 c.s.size
        omega
      · simp
theorem encL_snoc (cs : List CallV) (k : Nat) (h : k < cs.length) : encL (cs.take (k + 1)) = encL (cs.take k) ++ encC (cs.getD k noCall) := by
  rw [List.take_succ_eq_append_getElem h, encL_append]
  simp [encL, List.getD, List.getElem?_eq_getElem h]
theorem Rd.fr {w w' : World} {S : Nat → Prop} {base R : Nat} {v : Value} {xs : List Nat} {p : Nat} {en on : Int} (h : Rd w base R v xs p en on) (hf : Fr w w' S) (hR : ¬ S R) (hv : ∀ k, v.ownBlock = some k → ¬ S k) : Rd w' base R v xs p en on :=
  ⟨by rw [hf.block R (lt_of_block h.cell) hR]; exact h.cell, own_fr h.own hf hv⟩
theorem Row.lent {w : World} {g : Nat} {xs : List Nat} (h : Row w g (xs ++ List.replicate 67 169)) (hm : xs.length ≤ 140737488355328) : w.ownsRow g 5 1 (.slice (some ⟨g, 0, none⟩) xs.length (xs.length + 67)) xs.length (by8 xs) :=
  ⟨by rw [by8_length, Nat.mul_one], Or.inr ⟨g, xs.length + 67, _, rfl, Nat.le_refl _, h, by omega, by unfold maxLen; omega, by simp [by8_length], by
    rw [Nat.mul_one, List.toList_toArray, by8_append]
    conv => lhs; lhs; rw [← by8_length xs]
    exact List.take_left⟩⟩

set_option maxHeartbeats 4000000 in
set_option maxRecDepth 100000 in
theorem back_walk (lv : Value) (cs : List CallV) (cut : Int) (mb : Nat) (w : World) (hl : Cls w lv cs) (hmb : mb < 256) :
    Calls Try.prog 3 #[lv, .int .i64 cut, .int .u8 (mb : Int)] w fun e w' => e = .returned (.bool true) ∧ Below w.heap.size w w' := by
  obtain ⟨i0, hi, hz0, hz1, hz2⟩ := info_parts Try.info5
  have HL := hid2 hl
  obtain ⟨lao, lcap, rfl, hcl, hfine, hcells⟩ := hl
  have HC := hid2 hcells
  have HFI := hid2 hfine
  have HW0 : Hid (Wr 26 5 (w.alloc (.cells #[.slice none 0 0] 26)) w.heap.size w.heap.size (.slice none 0 0) (encL (cs.take 0))) := Wr.made w
  have HB0 : Hid (Below w.heap.size w (w.alloc (.cells #[.slice none 0 0] 26))) := (Below.refl w.heap.size w).alloc (Nat.le_refl _) _
  clear hcells hfine
  go_enter Try.func3, Try.ntmps3
  go_wp2_with fail
  go_loopw [8] (fun i wx => ∃ (k : Nat) (v : Value), k ≤ cs.length ∧ k ≤ 60 ∧ i = .int .i64 (k : Int) ∧ Hid (Wr 26 5 wx w.heap.size w.heap.size v (encL (cs.take k))) ∧ Hid (Below w.heap.size w wx) ∧ (encL (cs.take k)).length ≤ k * 1048586) (fun i _ => 60 - (intOf i).toNat)
  case atStart => exact ⟨0, _, Nat.zero_le _, by omega, rfl, HW0, HB0, by simp [encL]⟩
  case round =>
    obtain ⟨k, v, hk, hk60, rfl, HW, HB, hlen⟩ := hrel
    have hsz := HB.out.size
    clear HW0 HB0
    by_cases hgo : k < cs.length ∧ k < 60
    · obtain ⟨g1, g2⟩ := hgo
      obtain ⟨b, off, rfl, hcell⟩ := HC.out (by intro e; subst e; simp at g1)
      have HS := hid2 (encL_snoc cs k g1)
      obtain ⟨c, hc⟩ : ∃ c, c = cs.getD k noCall := ⟨_, rfl⟩
      have hcm : c ∈ cs := by rw [hc]; simp only [List.getD, List.getElem?_eq_getElem g1, Option.getD_some]; exact List.getElem_mem g1
      have hcf := HFI.out c hcm
      have hclen := encC_len c hcf
      have hck := hcell k g1
      rw [← hc] at hck HS
      obtain ⟨d0, d1, d2, d3, _⟩ := hck.below HB.out rfl
      obtain ⟨⟨n0, n1⟩, ⟨i0', i1⟩, _, hss⟩ := hcf
      have hlen2 : (encL (cs.take (k + 1))).length ≤ (k + 1) * 1048586 := by
        rw [HS.out, List.length_append, Nat.succ_mul]
        omega
      clear hcell hck hc hcm
      have t1 : (k : Int) < (cs.length : Int) := by omega
      have t2 : (k : Int) < 60 := by omega
      obtain ⟨kind, cn, ci, s, most⟩ := c
      simp only at n0 n1 i0' i1 hss d0 d1 d2 d3
      have hle : (encL (cs.take k)).length ≤ 70000000 := by omega
      have HL2 := hid2 hlen2
      clear hlen hlen2 hclen
      generalize encL (cs.take k) = ys at *
      by_cases k1 : kind = 1
      · subst k1
        go_wp2_with fail
        refine (num_any w.heap.size w.heap.size v ys cn wr n0 n1 HW.out hsz (by omega)).mono ?_
        rintro e w1 ⟨rfl, v1, hw1, hf1, _⟩
        have HW1 : Hid (Wr 26 5 w1 w.heap.size w.heap.size v1 (encL (cs.take (k + 1)))) := by rw [HS.out]; exact hw1
        have HB1 := hid2 (HB.out.trans (wr_below hf1 hsz (Nat.le_refl _) (fun k h => (HW.out.own.lt k h).1)))
        clear hw1 hf1
        go_wp2
        exact ⟨⟨k + 1, v1, by omega, by omega, by go_num, HW1, HB1, HL2.out⟩, by simp [intOf]; omega⟩
      · have q1 : (kind == 1) = false := by simpa using k1
        by_cases k2 : kind = 2
        · subst k2
          go_wp2_with fail
          refine (int_any w.heap.size w.heap.size v ys ci wr i0' i1 HW.out hsz (by omega)).mono ?_
          rintro e w1 ⟨rfl, v1, hw1, hf1, _⟩
          have HW1 : Hid (Wr 26 5 w1 w.heap.size w.heap.size v1 (encL (cs.take (k + 1)))) := by rw [HS.out]; exact hw1
          have HB1 := hid2 (HB.out.trans (wr_below hf1 hsz (Nat.le_refl _) (fun k h => (HW.out.own.lt k h).1)))
          clear hw1 hf1
          go_wp2
          exact ⟨⟨k + 1, v1, by omega, by omega, by go_num, HW1, HB1, HL2.out⟩, by simp [intOf]; omega⟩
        · have q2 : (kind == 2) = false := by simpa using k2
          by_cases k3 : kind = 3
          · subst k3
            go_wp2_with fail
            refine (text_any w.heap.size w.heap.size v ys s wr HW.out hsz (by omega)).mono ?_
            rintro e w1 ⟨rfl, v1, hw1, hf1, _⟩
            have HW1 : Hid (Wr 26 5 w1 w.heap.size w.heap.size v1 (encL (cs.take (k + 1)))) := by
              show Wr 26 5 w1 w.heap.size w.heap.size v1 (encL (cs.take (k + 1)))
              rw [HS.out]
              rw [List.append_assoc] at hw1
              exact hw1
            have HB1 := hid2 (HB.out.trans (wr_below hf1 hsz (Nat.le_refl _) (fun k h => (HW.out.own.lt k h).1)))
            clear hw1 hf1
            go_wp2
            exact ⟨⟨k + 1, v1, by omega, by omega, by go_num, HW1, HB1, HL2.out⟩, by simp [intOf]; omega⟩
          · have q3 : (kind == 3) = false := by simpa using k3
            have e0 : encC ⟨kind, cn, ci, s, most⟩ = [] := by simp [encC, k1, k2, k3]
            rw [e0, List.append_nil] at HS
            rw [← HS.out] at HW
            clear e0
            go_wp2
            exact ⟨⟨k + 1, v, by omega, by omega, by go_num, HW, HB, HL2.out⟩, by simp [intOf]; omega⟩
    · have hx0 : encL (cs.take k) = encL (cs.take 60) := by
        rcases (show k = 60 ∨ (k = cs.length ∧ cs.length ≤ 60) by omega) with h | ⟨h, h2⟩
        · rw [h]
        · rw [h, List.take_length, List.take_of_length_le h2]
      have hxl : (encL (cs.take 60)).length ≤ 70000000 := by rw [← hx0]; omega
      have hx8 := encL_b8 (cs.take 60) (fun c hc => HFI.out c (List.mem_of_mem_take hc))
      rw [hx0] at HW
      obtain ⟨xs, hxs⟩ : ∃ xs, xs = encL (cs.take 60) := ⟨_, rfl⟩
      have HXS := hid2 hxs
      rw [← hxs] at HW hxl hx8
      have HX8 := hid2 hx8
      clear hx0 hlen hxs hx8 HC HFI
      go_upto_region 3 with fail
      go_cut [21] (fun s21 wx => wx = wr ∧ s21 = .bool false)
      case first =>
        by_cases g1 : k < cs.length
        · have t1 : (k : Int) < (cs.length : Int) := by omega
          have t2 : ¬ (k : Int) < 60 := by omega
          go_wp2
          go_meet
          exact ⟨rfl, rfl⟩
        · have t1 : ¬ (k : Int) < (cs.length : Int) := by omega
          go_wp2
          go_meet
          exact ⟨rfl, rfl⟩
      case rest =>
        obtain ⟨rfl, rfl⟩ := hcut
        go_wp2_with fail
        refine (bytes_any w.heap.size w.heap.size v xs _ HW.out (by omega)).mono ?_
        rintro e w1 ⟨vb, rfl, hob, hfb⟩
        have HOB := hid2 hob
        have HB1 := hid2 (HB.out.trans (hfb.below hsz (fun _ h => h.elim)))
        obtain ⟨aob, capb, rfl⟩ := own_nil_shape hob
        clear hob hfb
        go_wp2_with fail
        refine (reads_any _ xs _ cs w w1 HL.out HB1.out (own_bs HOB.out) (by omega) HX8.out HXS.out).mono ?_
        rintro e w2 ⟨rfl, hf2⟩
        have HB2 := hid2 (HB1.out.trans (hf2.below HB1.out.size (fun _ h => h.elim)))
        have HOB2 := hid2 (own_fr HOB.out hf2 (fun _ _ h => h))
        clear hf2
        go_wp2_with fail
        refine (lend_any _ xs _ (own_bs HOB2.out) (by omega)).mono ?_
        rintro e w3 ⟨rfl, hrow, hf3⟩
        have HB3 := hid2 (HB2.out.trans (hf3.below HB2.out.size (fun _ h => h.elim)))
        have HOB3 := hid2 (own_fr HOB2.out hf3 (fun _ _ h => h))
        have ho3 := hrow.lent (by omega)
        have hs3 := HB3.out.size
        have hg3 := hrow.lt
        have HBN : Hid (w2.heap.size ≥ w.heap.size) := HB2.out.size
        clear hrow hf3
        go_wp2_with (at_builtin; go_must (refine wpList_append_own_at _ rfl (.tmp 63) (.tmp 65) 24 rfl w2.heap.size 5 i0 (.int .u8 0) 1 1 Try.underlying24 hi hz0 hz1 hz2 rfl (by decide) _ _ _ rfl (ho3.alloc _) ⟨w3.heap.size, 0, none⟩ 1 1 [.int .u8 (mb : Int)] rfl rfl (cells_new _ _ _) (fun x hx => by simp at hx; subst hx; rfl) (by unfold maxLen; omega) (by omega) (by simp; omega) ?_))
        intro v4 w4 hown4 hgrow4 _ _
        have HF4 : Hid (Fr w3 w4 (fun k => k = w2.heap.size)) := (alloc_fr w3 _ (fun k => k = w2.heap.size)).grown hgrow4 (fun k _ e => by simp [Value.ownBlock] at e; exact e.symm)
        have HB4 := hid2 (HB3.out.trans (HF4.out.below hs3 (fun k e => by rw [e]; exact HBN.out)))
        have HOB4 := hid2 (own_fr HOB3.out HF4.out (fun k hk e => by have := (HOB2.out.lt k hk).2; omega))
        have HO4 : Hid (w4.ownsRow w2.heap.size 5 1 v4 (xs ++ [mb]).length (by8 (xs ++ [mb]))) := by
          show w4.ownsRow w2.heap.size 5 1 v4 (xs ++ [mb]).length (by8 (xs ++ [mb]))
          rw [List.length_append, by8_append]
          exact hown4
        obtain ⟨ao4, cap4, rfl⟩ := own_nil_shape hown4
        have hl4 : (xs ++ [mb]).length = xs.length + 1 := by simp
        have HL4 := hid2 hl4
        have HX84 : Hid (∀ j, (xs ++ [mb]).getD j 0 < 256) := getD_append_lt HX8.out (fun j => by match j with | 0 => simpa using hmb | j + 1 => simp)
        have hsz4 := HB4.out.size
        clear hown4 hgrow4 ho3 hl4 HF4
        go_wp2_with fail
        refine (read_any _ (xs ++ [mb]) w4 (own_bs HO4.out) (by rw [HL4.out]; omega)).mono ?_
        rintro e w5 ⟨R1, v5, rfl, hR5, hRn5, hf5⟩
        have HR5 := hid2 hR5
        have HB5 := hid2 (HB4.out.trans (hf5.below hsz4 (fun _ h => h.elim)))
        have HOB5 := hid2 (own_fr HOB4.out hf5 (fun _ _ h => h))
        have hs5 := hf5.size
        clear hR5 hf5
        go_wp2_with fail
        refine (ask_any w4.heap.size R1 v5 (xs ++ [mb]) [] [mb] 0 0 0 _ cs w w5 HL.out HB5.out (by omega) HR5.out (by rw [HL4.out]; omega) HX84.out (Or.inl ⟨rfl, rfl, Nat.zero_le _, by rw [List.drop_zero, List.append_nil, ← HXS.out]⟩)).mono ?_
        rintro e w6 ⟨rfl, p6, en6, on6, hw6, hg6⟩
        rcases hg6 with ⟨rfl, rfl, hp6, hd6⟩ | ⟨h, _⟩
        case inr => exact absurd rfl h
        have hp7 : p6 < (xs ++ [mb]).length := by
          have := congrArg List.length hd6
          rw [List.append_nil, List.length_drop, List.length_singleton] at this
          omega
        have HR6 := hid2 hw6.1
        have HB6 := hid2 (HB5.out.trans (hw6.2.below HB5.out.size (fun k e => by omega)))
        have HOB6 := hid2 (own_fr HOB5.out hw6.2 (fun k hk e => by have := (HOB4.out.lt k hk).2; omega))
        have hs6 := hw6.2.size
        have HP6 := hid2 hp6
        have HP7 := hid2 hp7
        clear hw6 hp6 hd6 hp7
        go_wp2_with fail
        refine (end_any w4.heap.size R1 v5 (xs ++ [mb]) p6 0 0 _ HR6.out HP6.out (by rw [HL4.out]; omega)).mono ?_
        rintro e w7 ⟨rfl, hw7⟩
        have e1 : endE (xs ++ [mb]) p6 0 = 13 := by rw [endE, if_pos ⟨rfl, HP7.out⟩]
        have e2 : endO (xs ++ [mb]) p6 0 0 = (p6 : Int) := by rw [endO, if_pos ⟨rfl, HP7.out⟩]
        rw [e1, e2] at hw7
        have HR7 := hid2 hw7.1
        have HB7 := hid2 (HB6.out.trans (hw7.2.below HB6.out.size (fun k e => by omega)))
        have HOB7 := hid2 (own_fr HOB6.out hw7.2 (fun k hk e => by have := (HOB4.out.lt k hk).2; omega))
        have hs7 := hw7.2.size
        have hlt7 := lt_of_block hw7.1.cell
        clear hw7 e1 e2 HOB HOB2 HOB3 HOB5 HOB6 HO4 HR5 HR6 HB2 HB3 HB5 HB6 HW
        by_cases hx1 : 0 < xs.length
        · have t5 : (0 : Int) < (xs.length : Int) := by omega
          obtain ⟨gb, rfl⟩ := own_addr HOB7.out hx1
          have hcb : xs.length ≤ capb := by
            rcases HOB7.out.2 with ⟨h, _⟩ | ⟨g, cap', cur, h, _, _, hle, _⟩
            · simp at h
            · simp only [Value.slice.injEq] at h
              omega
          obtain ⟨j, hj, hjl⟩ : ∃ j : Nat, cut % (xs.length : Int) = (j : Int) ∧ j < xs.length := ⟨(cut % (xs.length : Int)).toNat, by have := Int.emod_nonneg cut (show (xs.length : Int) ≠ 0 by omega); omega, by have := Int.emod_lt_of_pos cut t5; have := Int.emod_nonneg cut (show (xs.length : Int) ≠ 0 by omega); omega⟩
          have HJ := hid2 hj
          have hjc : (j : Int) ≤ (capb : Int) := by omega
          have HBJ : Hid (Bs w7 (.slice (some ⟨gb, 0, none⟩) j capb) (xs.take j)) := by
            have hlen : (xs.take j).length = j := by simp; omega
            refine Or.inr ⟨⟨gb, 0, none⟩, capb, by rw [hlen], fun i u hu => ?_⟩
            refine HOB7.out.cells (g := gb) rfl i u ?_
            rw [← List.take_append_drop j xs, by8_append, List.getElem?_append_left (List.getElem?_eq_some_iff.1 hu).1]
            exact hu
          have hjl2 : (xs.take j).length = j := by simp; omega
          have HJL := hid2 hjl2
          clear hj hjl2
          go_wp2_with fail
          refine (round_any cut (xs.length : Int) _ t5 (by omega)).mono ?_
          rintro e w8 ⟨rfl, hw8⟩
          have hw8 := hw8.symm
          subst hw8
          rw [HJ.out]
          go_wp2_with fail
          refine (read_any _ (xs.take j) w7 HBJ.out (by rw [HJL.out]; omega)).mono ?_
          rintro e w9 ⟨R2, v9, rfl, hR9, hRn9, hf9⟩
          have HR9 := hid2 hR9
          have HB9 := hid2 (HB7.out.trans (hf9.below HB7.out.size (fun _ h => h.elim)))
          have HQ9 := hid2 (HR7.out.fr hf9 (fun h => h) (fun _ _ h => h))
          have hs9 := hf9.size
          clear hR9 hf9
          go_wp2_with fail
          refine (ask_any w7.heap.size R2 v9 (xs.take j) (xs.drop j) [] 0 0 0 _ cs w w9 HL.out HB9.out (by omega) HR9.out (by rw [HJL.out]; omega) (getD_take_lt HX8.out j) (Or.inl ⟨rfl, rfl, Nat.zero_le _, by rw [List.drop_zero, List.take_append_drop, List.append_nil, ← HXS.out]⟩)).mono ?_
          rintro e w10 ⟨rfl, p10, en10, on10, hw10, hg10⟩
          have hdne : xs.drop j ≠ [] := by
            intro h
            have := congrArg List.length h
            rw [List.length_drop, List.length_nil] at this
            omega
          rcases hg10 with ⟨_, _, _, hd⟩ | ⟨_, rfl, rfl, hp10⟩
          case inl => exact absurd (List.append_eq_nil_iff.1 hd).2 hdne
          have HR10 := hid2 hw10.1
          have HB10 := hid2 (HB9.out.trans (hw10.2.below HB9.out.size (fun k e => by omega)))
          have HQ10 := hid2 (HQ9.out.fr hw10.2 (fun e => by omega) (fun k hk e => by have := (HR7.out.own.lt k hk).2; omega))
          have HP10 := hid2 hp10
          clear hw10 hp10 hdne
          go_wp2_with fail
          refine (end_any w7.heap.size R2 v9 (xs.take j) p10 11 _ _ HR10.out HP10.out (by rw [HJL.out]; omega)).mono ?_
          rintro e w11 ⟨rfl, hw11⟩
          have e1 : ∀ on, endE (xs.take j) p10 11 = 11 ∧ endO (xs.take j) p10 11 on = on := fun on => by simp [endE, endO]
          rw [(e1 0).1, (e1 _).2] at hw11
          have HR11 := hid2 hw11.1
          have HB11 := hid2 (HB10.out.trans (hw11.2.below HB10.out.size (fun k e => by omega)))
          have HQ11 := hid2 (HQ10.out.fr hw11.2 (fun e => by omega) (fun k hk e => by have := (HR7.out.own.lt k hk).2; omega))
          clear hw11 e1
          go_wp2_with fail
          refine (err_bad w7.heap.size R2 v9 (xs.take j) p10 11 _ _ HR11.out (by decide)).mono ?_
          rintro e w12 ⟨rfl, hc12, hf12⟩
          have HB12 := hid2 (HB11.out.trans (hf12.below HB11.out.size (fun _ h => h.elim)))
          have HQ12 := hid2 (HQ11.out.fr hf12 (fun h => h) (fun _ _ h => h))
          have HC12 := hid2 hc12
          clear hc12 hf12
          go_wp2_with fail
          refine (is_any _ 11 11 _ _ HC12.out).mono ?_
          rintro e w13 ⟨rfl, hw13⟩
          have hw13 := hw13.symm
          subst hw13
          go_wp2_with fail
          refine (err_bad w4.heap.size R1 v5 (xs ++ [mb]) p6 13 (p6 : Int) _ HQ12.out (by decide)).mono ?_
          rintro e w20 ⟨rfl, hc20, hf20⟩
          have HB20 := hid2 (HB12.out.trans (hf20.below HB12.out.size (fun _ h => h.elim)))
          have HC20 := hid2 hc20
          clear hc20 hf20
          go_wp2_with fail
          refine (is_any _ 13 13 _ _ HC20.out).mono ?_
          rintro e w21 ⟨rfl, hw21⟩
          have hw21 := hw21.symm
          subst hw21
          go_wp2_with (go_at_call 21; refine (head_any _).mono ?_; rintro e w22 ⟨rfl, hb22⟩; have HB22 := hid2 (HB20.out.trans (hb22.mono HB20.out.size)); clear hb22)
          go_ret
          exact ⟨rfl, HB22.out⟩
        · have t5 : ¬ (0 : Int) < (xs.length : Int) := by omega
          go_wp2_with fail
          refine (err_bad w4.heap.size R1 v5 (xs ++ [mb]) p6 13 (p6 : Int) _ HR7.out (by decide)).mono ?_
          rintro e w20 ⟨rfl, hc20, hf20⟩
          have HB20 := hid2 (HB7.out.trans (hf20.below HB7.out.size (fun _ h => h.elim)))
          have HC20 := hid2 hc20
          clear hc20 hf20
          go_wp2_with fail
          refine (is_any _ 13 13 _ _ HC20.out).mono ?_
          rintro e w21 ⟨rfl, hw21⟩
          have hw21 := hw21.symm
          subst hw21
          go_wp2_with (go_at_call 21; refine (head_any _).mono ?_; rintro e w22 ⟨rfl, hb22⟩; have HB22 := hid2 (HB20.out.trans (hb22.mono HB20.out.size)); clear hb22)
          go_ret
          exact ⟨rfl, HB22.out⟩
end Go.Proofs.Ytdhobmnljniccab
