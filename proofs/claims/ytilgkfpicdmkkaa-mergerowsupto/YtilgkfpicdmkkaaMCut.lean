import Derived.Test.YtilgkfpicdmkkaaMTxt
import Derived.Laws.Bits64b
/- merge: cutKey, startOf, Cell: walks. -/
namespace Go.Proofs.Ytilgkfpicdmkkaa.M
open Go.RowKit

/-- What is cut behind some of the key. -/
def comb (acc : List Nat) (c : Int × List Nat × List Nat) : Int × List Nat × List Nat := if c.1 = 0 then (0, acc ++ c.2.1, c.2.2) else (c.1, [], [])
theorem comb_ne (acc : List Nat) {x : Nat} (t : List Nat) (hx : x ≠ 0) : comb acc (cut (x :: t)) = comb (acc ++ [x]) (cut t) := by
  rw [cut_ne t hx]
  unfold comb
  by_cases h : (cut t).1 = 0
  · rw [if_pos h, if_pos rfl, if_pos h]
    simp
  · rw [if_neg h, if_neg h, if_neg h]
theorem comb_z (acc : List Nat) (u : List Nat) : comb acc (cut (0 :: 255 :: u)) = comb (acc ++ [0]) (cut u) := by
  rw [cut_z, if_neg (by decide), if_neg (by decide)]
  unfold comb
  by_cases h : (cut u).1 = 0
  · rw [if_pos h, if_pos rfl, if_pos h]
    simp
  · rw [if_neg h, if_neg h, if_neg h]
theorem cut_nil_comb (c : Int × List Nat × List Nat) (h : c.1 ≠ 0 → c.2.1 = [] ∧ c.2.2 = []) : comb [] c = c := by
  unfold comb
  obtain ⟨a, b, d⟩ := c
  by_cases h0 : a = 0
  · simp [h0]
  · have := h h0
    simp only at this
    simp [h0, this.1, this.2]
theorem cut_err (n : Nat) : ∀ l : List Nat, l.length ≤ n → (cut l).1 ≠ 0 → (cut l).2.1 = [] ∧ (cut l).2.2 = [] := by
  induction n with
  | zero =>
    intro l hl h
    match l, hl with
    | [], _ => simp [cut]
  | succ n ih =>
    intro l hl h
    match l, hl with
    | [], _ => simp [cut]
    | x :: t, hl =>
      by_cases hx : x ≠ 0
      · rw [cut_ne t hx] at h ⊢
        by_cases hc : (cut t).1 = 0
        · rw [if_pos hc] at h
          exact absurd rfl h
        · rw [if_neg hc]
          exact ⟨rfl, rfl⟩
      · have hx0 : x = 0 := by omega
        subst hx0
        match t, hl with
        | [], _ => rw [cut_zz]; exact ⟨rfl, rfl⟩
        | y :: u, hl =>
          rw [cut_z] at h ⊢
          by_cases h1 : y = 1
          · rw [if_pos h1] at h
            exact absurd rfl h
          · rw [if_neg h1] at h ⊢
            by_cases h2 : y ≠ 255
            · rw [if_pos h2]
              exact ⟨rfl, rfl⟩
            · rw [if_neg h2] at h ⊢
              by_cases hc : (cut u).1 = 0
              · rw [if_pos hc] at h
                exact absurd rfl h
              · rw [if_neg hc]
                exact ⟨rfl, rfl⟩
theorem drop_at {s : ByteArray} {i : Nat} (h : i < s.size) : (nums8 s).drop i = (nums8 s).getD i 0 :: (nums8 s).drop (i + 1) := by
  have h2 : i < (nums8 s).length := by rw [nums8_length]; exact h
  rw [List.drop_eq_getElem_cons h2]
  simp [h2]
theorem nums8_extract (s : ByteArray) (i : Nat) : nums8 (s.extract i s.size) = (nums8 s).drop i := by
  unfold nums8
  rw [ByteArray.data_extract, ← List.map_drop]
  congr 1
  rw [Array.toList_extract, List.extract_eq_take_drop]
  apply List.take_of_length_le
  rw [List.length_drop, Array.length_toList]
  exact Nat.le_refl _
theorem extract_str8 (s : ByteArray) (i : Nat) : s.extract i s.size = str8 ((nums8 s).drop i) := by
  rw [← nums8_extract, str8_nums8]

set_option maxHeartbeats 4000000 in
set_option maxRecDepth 100000 in
theorem cut_any (s : ByteArray) (w : World) (hs : s.size ≤ 140737488355327) :
    Calls Try.prog 39 #[.string s] w fun e w' => e = .returned (.tuple #[.string (str8 (cut (nums8 s)).2.1), .string (str8 (cut (nums8 s)).2.2), .int .i64 (cut (nums8 s)).1]) ∧ Fr w w' (fun _ => False) := by
  have HC0 : Hid (comb [] (cut ((nums8 s).drop 0)) = cut (nums8 s)) := by
    show _ = _
    rw [List.drop_zero]
    exact cut_nil_comb _ (cut_err _ _ (Nat.le_refl _))
  generalize cut (nums8 s) = R at *
  go_enter Try.func39, Try.ntmps39
  go_wp2_with fail
  go_loopg [5, 6] s.size (fun g s5 s6 wx => ∃ (i : Nat) (acc : List Nat), s6 = .int .i64 (i : Int) ∧ i ≤ s.size ∧ s.size - i ≤ g ∧ acc.length ≤ i ∧ Hid (Bo w wx s5 acc) ∧ Hid (comb acc (cut ((nums8 s).drop i)) = R))
  case atStart => exact ⟨0, [], rfl, by omega, by omega, by simp, ⟨⟨rfl, Or.inl ⟨rfl, rfl⟩⟩, Fr.refl _ _⟩, HC0⟩
  case round =>
    obtain ⟨i, acc, rfl, hi, hg, hal, HB, HR⟩ := hrel
    clear HC0
    obtain ⟨ao, cap, rfl⟩ := HB.out.shape
    by_cases h1 : i < s.size
    · have t1 : (i : Int) < (s.size : Int) := by omega
      have hx := nums8_at h1
      have hxl := nums8_lt s i
      have hd := drop_at h1
      rw [hd] at HR
      clear hd
      generalize (nums8 s).getD i 0 = x at *
      by_cases hx0 : x = 0
      · subst hx0
        obtain ⟨j, hj⟩ : ∃ j, j = i + 1 := ⟨_, rfl⟩
        obtain ⟨k, hk⟩ : ∃ k, k = i + 2 := ⟨_, rfl⟩
        have e1 : (i : Int) + 1 = (j : Int) := by omega
        have e2 : (j : Int) + 1 = (k : Int) := by omega
        by_cases h2 : j < s.size
        · have t2 : ((j : Int) == (s.size : Int)) = false := by simp; omega
          have t3 : (j : Int) < (s.size : Int) := by omega
          have hy := nums8_at h2
          have hyl := nums8_lt s j
          have hd := drop_at h2
          rw [← hj, hd, show j + 1 = k by omega] at HR
          clear hd
          generalize (nums8 s).getD j 0 = y at *
          by_cases hy1 : y = 1
          · subst hy1
            have HR2 : Hid (R = (0, acc, (nums8 s).drop k)) := by
              show _ = _
              rw [← HR.out, cut_z, if_pos rfl]
              unfold comb
              rw [if_pos rfl]
              simp
            have HEx := hid (extract_str8 s k)
            have hcv := run_str8 (w := wr.drew) Try.underlying76 Try.underlying5 Try.underlying9 (own_bs (HB.out.fr ((Fr.refl _ _).drew)).1)
            have t4 : (k : Int) ≤ (s.size : Int) := by omega
            clear HR hj hk
            go_wp2_with fail
            go_region
            go_wp2_with fail
            go_ret3
            rw [HR2.out, ← HEx.out]
            exact ⟨rfl, HB.out.2.drew⟩
          · have t4 : ((y : Int) == 1) = false := by simp; omega
            by_cases hy2 : y = 255
            · subst hy2
              have HR2 : Hid (comb (acc ++ [0]) (cut ((nums8 s).drop k)) = R) := by
                show _ = _
                rw [← comb_z]
                exact HR.out
              have HX1 := hid (HB.out.fr (alloc_fr wr (.cells #[.int .u8 0] 5) (fun _ => False)))
              have HK := hid hk
              have HKs : Hid (k ≤ s.size) := by show k ≤ s.size; omega
              have HGk : Hid (s.size - k < gk) := by show s.size - k < gk; omega
              have HAl : Hid ((acc ++ [0]).length ≤ k) := by show (acc ++ [0]).length ≤ k; simp; omega
              clear HR HB hj hk
              go_wp2_with (at_builtin; go_must (refine wpl_bo (wb := w) rfl (.tmp 46) (.tmp 47) rfl _ acc rfl wr.heap.size 1 [0] rfl ?c1 ?c2 ?c3 ?_))
              case c1 => (try simp only [List.length_cons, List.length_nil]); omega
              case c2 => exact HX1.out
              case c3 => rw [heap_last _ _ _ rfl]; simp [by8]
              intro v' w3 hX3
              have HX3 := hid hX3
              obtain ⟨ao3, cap3, rfl⟩ := hX3.shape
              clear hX3 HX1
              go_wp2_with fail
              go_roundg (gk - 1)
              case measure => have := HGk.out; omega
              case rel => exact ⟨k, acc ++ [0], by first | rfl | go_num, HKs.out, by have := HGk.out; omega, HAl.out, HX3, HR2⟩
            · have t5 : ((y : Int) != 255) = true := by simp; omega
              have HR2 : Hid (R = (12, [], [])) := by
                show _ = _
                rw [← HR.out, cut_z, if_neg hy1, if_pos hy2]
                rfl
              clear HR hj hk
              go_wp2_with fail
              go_ret3
              rw [HR2.out]
              exact ⟨rfl, HB.out.2⟩
        · have t2 : ((j : Int) == (s.size : Int)) = true := by simp; omega
          have HR2 : Hid (R = (11, [], [])) := by
            show _ = _
            rw [← HR.out, ← hj, List.drop_eq_nil_of_le (by rw [nums8_length]; omega), cut_zz]
            rfl
          clear HR hj hk
          go_wp2_with fail
          go_ret3
          rw [HR2.out]
          exact ⟨rfl, HB.out.2⟩
      · have t2 : ((x : Int) != 0) = true := by simp; omega
        have HR2 : Hid (comb (acc ++ [x]) (cut ((nums8 s).drop (i + 1))) = R) := by
          show _ = _
          rw [← comb_ne _ _ hx0]
          exact HR.out
        have HX1 := hid (HB.out.fr (alloc_fr wr (.cells #[.int .u8 (x : Int)] 5) (fun _ => False)))
        clear HR HB
        go_wp2_with (at_builtin; go_must (refine wpl_bo (wb := w) rfl (.tmp 17) (.tmp 21) rfl _ acc rfl wr.heap.size 1 [x] rfl ?c1 ?c2 ?c3 ?_))
        case c1 => (try simp only [List.length_cons, List.length_nil]); omega
        case c2 => exact HX1.out
        case c3 => rw [heap_last _ _ _ rfl]; simp [by8]
        intro v' w3 hX3
        have HX3 := hid hX3
        obtain ⟨ao3, cap3, rfl⟩ := hX3.shape
        clear hX3 HX1
        go_wp2_with fail
        go_roundg (gk - 1)
        case measure => omega
        case rel => exact ⟨i + 1, acc ++ [x], by go_num, by omega, by omega, by simp; omega, HX3, HR2⟩
    · have t1 : ¬ (i : Int) < (s.size : Int) := by omega
      have HR2 : Hid (R = (11, [], [])) := by
        show _ = _
        rw [← HR.out, List.drop_eq_nil_of_le (by rw [nums8_length]; omega)]
        rfl
      clear HR
      go_wp2_with fail
      go_ret3
      rw [HR2.out]
      exact ⟨rfl, HB.out.2⟩
end Go.Proofs.Ytilgkfpicdmkkaa.M
