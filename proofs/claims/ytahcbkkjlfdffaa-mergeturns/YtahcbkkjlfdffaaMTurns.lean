import Derived.Test.YtahcbkkjlfdffaaMKeys
import Derived.Lib.ConvBytes
/- MergeTurns: a walk. -/
namespace Go.Proofs.Ytahcbkkjlfdffaa.M
open Go.RowKit

set_option maxRecDepth 100000 in
theorem within_any (a n : Int) (hn : 0 < n) (hb : n ≤ 1000000) (w : World) : Calls Try.prog 16 #[.int .i64 a, .int .i64 n] w fun e w' => e = .returned (.int .i64 (a % n)) ∧ w' = w := by
  have h1 : -n < a.tmod n := Int.lt_tmod_of_pos a hn
  have h2 : a.tmod n < n := Int.tmod_lt_of_pos a hn
  have h3 : ¬ n = 0 := by omega
  have h5 : (n == 0) = false := by simpa using h3
  have h6 : (n == -1) = false := by simp; omega
  have h7 : ¬ n = -1 := by omega
  have h4 : a % n = if a.tmod n < 0 then a.tmod n + n else a.tmod n := by
    have hq := Int.tmod_add_mul_tdiv a n
    generalize a.tmod n = m at *
    generalize a.tdiv n = q at *
    rw [← hq, Int.add_mul_emod_self_left]
    by_cases hm : m < 0
    · rw [if_pos hm, ← Int.add_emod_right]
      exact Int.emod_eq_of_lt (by omega) (by omega)
    · rw [if_neg hm]
      exact Int.emod_eq_of_lt (by omega) h2
  rw [h4]
  clear h4
  generalize hm : a.tmod n = m at *
  by_cases hlt : m < 0
  · rw [if_pos hlt]
    go_enter Try.func16, Try.ntmps16
    go_wp2_with fail
    go_ret
    exact ⟨rfl, rfl⟩
  · rw [if_neg hlt]
    go_enter Try.func16, Try.ntmps16
    go_wp2_with fail
    go_ret
    exact ⟨rfl, rfl⟩

/-- []byte(s). -/
theorem conv_any (w : World) (s : ByteArray) : ∃ c w', (convert 9 36 (.string s)).run Try.prog w = .ok (.slice (some ⟨w.heap.size, 0, none⟩) s.size c) w' ∧ Fr w w' (fun _ => False) ∧ w.heap.size < w'.heap.size ∧ ∀ j, j < s.size → w'.cell? ⟨w.heap.size, j, none⟩ = some (.int .u8 ((nums8 s).getD j 0 : Nat)) ∧ w'.frozen? ⟨w.heap.size, j, none⟩ = false := by
  refine ⟨_, _, Lib.run_convert_string_bytes w 9 36 5 s Try.underlying9 Try.underlying36 Try.underlying5, ?_, by rw [Lib.bytesWorld_size]; omega, fun j hj => ⟨?_, ?_⟩⟩
  · exact ⟨rfl, rfl, rfl, by rw [Lib.bytesWorld_size]; omega, fun k hk _ => Lib.bytesWorld_at_old w _ s k hk⟩
  · rw [Lib.bytesWorld_cell w _ s j hj]
    have h2 : j < s.data.size := hj
    simp only [nums8, List.getD_eq_getElem?_getD, List.getElem?_map, Array.getElem?_toList, Array.getElem?_eq_getElem h2]
    rfl
  · have hge := grownCap_ge w s.size 0 5
    have hsz : (Lib.bytesCells w 5 s).size = grownCap w s.size 0 5 := by
      simp only [Lib.bytesCells, Array.size_append, Array.size_map, Array.size_replicate]
      have : s.data.size = s.size := rfl
      omega
    have := Lib.bytesWorld_at_new w 5 s
    simp [World.frozen?, this, hsz]
    omega

theorem addS {a b : ByteArray} (h : a.size + b.size ≤ 9223372036854775807) (W : World) : (binOp .add 9 (.string a) (.string b)).run Try.prog W = .ok (.string (a ++ b)) W := by
  simp [binOp, Op.stringOp]
  omega
theorem key_pos {c : Cl} (h : mE c = 0) : 0 < (key c).size := by
  unfold key
  rw [if_pos h, str8_size]
  simp [txt]
theorem key_le {c : Cl} : (key c).size ≤ 75 := by
  unfold key
  split
  · rename_i h
    rw [str8_size]
    exact txt_len h
  · exact Nat.zero_le _

set_option maxHeartbeats 4000000 in
set_option maxRecDepth 100000 in
theorem turns_walk (a : Cl) (at0 by0 cut0 : Int) (more : ByteArray) (w : World) (ha : a.k.size ≤ 9223372036854775807) (hm : more.size ≤ 140737488355327) : Calls Try.prog 4 #[vC a, .int .i64 at0, .int .u8 by0, .int .i64 cut0, .string more] w fun e w' => e = .returned (.bool true) ∧ Fr w w' (fun _ => False) := by
  have HRa := hid (fun W => rkey_any a W ha)
  have HKs := hid (fun s W hs => keys_walk a a s W ha hs)
  have hkp := @key_pos a
  have hkl := @key_le a
  by_cases hE : mE a = 0
  · have hkp := hkp hE
    rw [hE] at HRa
    clear hE
    generalize key a = ka at *
    unfold vC at HRa HKs ⊢
    obtain ⟨av, ak, az⟩ := a
    dsimp only at *
    have HW1 := hid (fun W => within_any at0 (ka.size : Int) (by omega) (by omega) W)
    have HW2 := hid (fun W => within_any cut0 ((ka.size : Int) + 1) (by omega) (by omega) W)
    have hr1 := Int.emod_nonneg at0 (show (ka.size : Int) ≠ 0 by omega)
    have hr2 := Int.emod_lt_of_pos at0 (show (0 : Int) < (ka.size : Int) by omega)
    have hr3 := Int.emod_nonneg cut0 (show (ka.size : Int) + 1 ≠ 0 by omega)
    have hr4 := Int.emod_lt_of_pos cut0 (show (0 : Int) < (ka.size : Int) + 1 by omega)
    obtain ⟨r, hr⟩ : ∃ r : Nat, at0 % (ka.size : Int) = (r : Int) := ⟨(at0 % (ka.size : Int)).toNat, by omega⟩
    obtain ⟨q, hq⟩ : ∃ q : Nat, cut0 % ((ka.size : Int) + 1) = (q : Int) := ⟨(cut0 % ((ka.size : Int) + 1)).toNat, by omega⟩
    rw [hr] at HW1 hr1 hr2
    rw [hq] at HW2 hr3 hr4
    have HW3 := HW2
    rw [show (ka.size : Int) + 1 = ((ka.size + 1 : Nat) : Int) by omega] at HW3
    clear hr hq
    have hrl : r < ka.size := by omega
    have hql : q ≤ ka.size := by omega
    go_enter Try.func4, Try.ntmps4
    go_wp2_with fail
    have h0 := heap_last w (.cells #[.int .i64 av, .string ak, .int .i64 az] 23) _ rfl
    have HF0 := hid (alloc_fr w (.cells #[.int .i64 av, .string ak, .int .i64 az] 23) (fun _ => False))
    generalize w.alloc (.cells #[.int .i64 av, .string ak, .int .i64 az] 23) = wa at *
    refine (HRa.out _).mono ?_
    rintro e wb ⟨rfl, hfb⟩
    have HB0 := hid ((hfb.block _ (lt_of_block h0) (fun h => h)).trans h0)
    have HFb := hid (HF0.out.trans hfb)
    clear hfb h0 HF0
    generalize w.heap.size = N at *
    obtain ⟨cc, wd, hcv, hfd, hgd, hcd⟩ := conv_any wb ka
    obtain ⟨hc1, hc2⟩ := hcd r hrl
    have HCd := hid hcd
    generalize (nums8 ka).getD r 0 = ob at hc1
    have HFd := hid hfd
    clear hfd hcd
    generalize hG : wb.heap.size = G at *
    have hNG : N ≠ G := by have := lt_of_block HB0.out; omega
    have HG0 : Hid (wb.heap.size ≤ G) := by show wb.heap.size ≤ G; omega
    clear hG
    go_wp2_with fail
    refine (HW1.out _).mono ?_
    rintro e w3 ⟨rfl, hw3⟩
    have hw3 := hw3.symm
    subst hw3
    go_upto_if 36 with (fail)
    obtain ⟨X, hX⟩ : ∃ X : Nat, ((ob : Int) + by0) % 256 = (X : Int) := ⟨(((ob : Int) + by0) % 256).toNat, by omega⟩
    rw [hX]
    have HBs : Hid (∀ W', Fr (wd.setCell ⟨G, r, none⟩ (.int .u8 (X : Int))) W' (fun _ => False) → Bs W' (.slice (some ⟨G, 0, none⟩) ka.size cc) ((nums8 ka).set r X)) := by
      intro W' hf
      have hl : ((nums8 ka).set r X).length = ka.size := by rw [List.length_set, nums8_length]
      refine Or.inr ⟨⟨G, 0, none⟩, cc, by rw [hl], fun j u hu => ?_⟩
      have hj : j < ((nums8 ka).set r X).length := by
        rcases Nat.lt_or_ge j ((nums8 ka).set r X).length with h | h
        · exact h
        · rw [List.getElem?_eq_none (by rw [by8_length]; exact h)] at hu; cases hu
      rw [by8_get _ j hj] at hu
      rw [hl] at hj
      rw [Addr.add_lit, Nat.zero_add, (fr_rules hf).1 _ _ (by simpa using hgd), ← hu]
      by_cases hjr : r = j
      · subst hjr
        have h2 : r < (nums8 ka).length := by rw [nums8_length]; exact hrl
        rw [World.cell?_setCell_same _ _ _ hc1]
        simp [h2]
      · have h3 := (HCd.out j hj).1
        rw [World.cell?_setCell_other _ _ _ _ (by simp), h3]
        simp [hjr]
    have HFw : Hid (Fr wb (wd.setCell ⟨G, r, none⟩ (.int .u8 (X : Int))) (fun _ => False)) := HFd.out.setCell (p := ⟨G, r, none⟩) (fun h => absurd h (by have := HG0.out; simp only; omega)) _
    generalize wd.setCell ⟨G, r, none⟩ (.int .u8 (X : Int)) = we at *
    have HSl : Hid (((nums8 ka).set r X).length = ka.size) := by show _ = _; rw [List.length_set, nums8_length]
    generalize (nums8 ka).set r X = bs at *
    clear hX hc1 hc2 HCd hcv HFd hgd
    go_cut [4] (fun s4 wx => ∃ m : ByteArray, s4 = .string m ∧ m.size ≤ 40 ∧ wx = we)
    case first =>
      by_cases h40 : (40 : Int) < (more.size : Int)
      · go_wp2_with fail
        go_meet
        exact ⟨_, rfl, by simp; omega, rfl⟩
      · go_wp2_with fail
        go_meet
        exact ⟨_, rfl, by omega, rfl⟩
    case rest =>
      obtain ⟨m, rfl, hm40, rfl⟩ := hcut
      have HC2 := hid (fun (W' : World) (hf : Fr wc W' (fun _ => False)) => (show (W'.cell? ⟨N, 0, none⟩ = some (.int .i64 av) ∧ W'.cell? ⟨N, 1, none⟩ = some (.string ak) ∧ W'.cell? ⟨N, 2, none⟩ = some (.int .i64 az)) ∧ (convert 36 9 (.slice (some ⟨G, 0, none⟩) ka.size cc)).run Try.prog W' = .ok (.string (str8 bs)) W' ∧ (binOp .add 9 (.string ka) (.string m)).run Try.prog W' = .ok (.string (ka ++ m)) W' from
        ⟨cells3 (((HFw.out.trans hf).block _ (lt_of_block HB0.out) (fun h => h)).trans HB0.out), by rw [run_str8 Try.underlying36 Try.underlying5 Try.underlying9 (HBs.out _ hf)], addS (by omega) W'⟩))
      have HX := hid (Fr.refl wc (fun _ => False))
      have HFc := hid (HFb.out.trans HFw.out)
      have Hs1 : Hid ((str8 bs).size ≤ 140737488355327) := by show _ ≤ _; rw [str8_size, HSl.out]; omega
      have Hs2 : Hid ((ka.extract 0 q).size ≤ 140737488355327) := by show _ ≤ _; simp; omega
      have Hs3 : Hid ((ka ++ m).size ≤ 140737488355327) := by show _ ≤ _; simp; omega
      have t5 : (q : Int) ≤ (ka.size : Int) := by omega
      have hwk : IntKind.i64.wrap ((ka.size : Int) + 1) = (ka.size : Int) + 1 := by rw [IntKind.wrap_i64]; omega
      have t6 : ka.size + m.size ≤ 9223372036854775807 := by omega
      clear HFw HB0 HBs HFb
      have hadd := fun W => addS (a := ka) (b := m) t6 W
      have t7 : (ka.size : Int) + (m.size : Int) ≤ 9223372036854775807 := by omega
      clear hkl hkp hm40 hm
      go_wp2_with fail
      first
        | go_region_held (fun W' => Hid (Fr wc W' (fun _ => False)) ∧ (W'.cell? ⟨N, 0, none⟩ = some (.int .i64 av) ∧ W'.cell? ⟨N, 1, none⟩ = some (.string ak) ∧ W'.cell? ⟨N, 2, none⟩ = some (.int .i64 az)) ∧ (convert 36 9 (.slice (some ⟨G, 0, none⟩) ka.size cc)).run Try.prog W' = .ok (.string (str8 bs)) W' ∧ (binOp .add 9 (.string ka) (.string m)).run Try.prog W' = .ok (.string (ka ++ m)) W')
            ((refine (fun h => ⟨h, HC2.out _ h⟩ : Fr wc _ (fun _ => False) → _) ?_; repeat (first | exact HX.out | apply Fr.drew | apply Fr.alloc)))
            (first
            | (go_at_call 3; with_reducible refine (HKs.out (str8 bs) _ Hs1.out).mono ?_; rintro e w7 ⟨rfl, hf⟩; have HX := hid (Fr.trans (a := wc) (by repeat (first | exact HX.out | apply Fr.drew | apply Fr.alloc)) hf); clear hf)
            | (go_at_call 3; with_reducible refine (HKs.out (ka.extract 0 q) _ Hs2.out).mono ?_; rintro e w7 ⟨rfl, hf⟩; have HX := hid (Fr.trans (a := wc) (by repeat (first | exact HX.out | apply Fr.drew | apply Fr.alloc)) hf); clear hf)
            | (go_at_call 3; with_reducible refine (HKs.out (ka ++ m) _ Hs3.out).mono ?_; rintro e w7 ⟨rfl, hf⟩; have HX := hid (Fr.trans (a := wc) (by repeat (first | exact HX.out | apply Fr.drew | apply Fr.alloc)) hf); clear hf)
            | (go_at_call 16; with_reducible refine (HW2.out _).mono ?_; rintro e w8 ⟨rfl, hw8⟩; have hw8 := hw8.symm; subst hw8)
            | fail)
        | fail
      all_goals (
        go_wp2_with fail
        go_ret
        exact ⟨by simp, HFc.out.trans (by repeat (first | exact HX.out | apply Fr.drew | apply Fr.alloc))⟩)
  · generalize mE a = ea at *
    generalize key a = ka at *
    have tE : (ea != 0) = true := by simpa using hE
    unfold vC at HRa ⊢
    obtain ⟨av, ak, az⟩ := a
    dsimp only at *
    clear HKs
    go_enter Try.func4, Try.ntmps4
    go_wp2_with fail
    refine (HRa.out _).mono ?_
    rintro e w1 ⟨rfl, hf1⟩
    have HF1 := hid ((alloc_fr w _ (fun _ => False)).trans hf1)
    clear hf1
    go_wp2_with fail
    refine (known_any _).mono ?_
    rintro e w2 ⟨rfl, hf2⟩
    have HF2 := hid (HF1.out.trans hf2)
    clear hf2
    go_wp2_with fail
    go_ret
    exact ⟨rfl, HF2.out⟩
end Go.Proofs.Ytahcbkkjlfdffaa.M
