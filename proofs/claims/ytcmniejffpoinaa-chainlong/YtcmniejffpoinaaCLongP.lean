/- ChainLong's chains as lists, and what its questions want of them. Nothing of the program is used here. -/
import Derived.Test.YtcmniejffpoinaaCPure
namespace Go.Proofs.Ytcmniejffpoinaa

/-- The version of number j: j times apart, now and then a tombstone. -/
def vj (a d : Int) (j : Nat) : Vn := if (j : Int) % d = 0 then ⟨(j : Int) * a, false, 0⟩ else ⟨(j : Int) * a, true, (j : Int)⟩
theorem vj_e (a d : Int) (j : Nat) : (vj a d j).e = (j : Int) * a := by unfold vj; split <;> rfl
def LL (a d : Int) : Nat → List Vn
  | 0 => []
  | m + 1 => LL a d m ++ [vj a d (m + 1)]
theorem LL_len (a d : Int) : ∀ m, (LL a d m).length = m
  | 0 => rfl
  | m + 1 => by simp [LL, LL_len a d m]
theorem LL_nw (a d : Int) (m : Nat) : nw (LL a d (m + 1)) = vj a d (m + 1) := nw_snoc _ _
theorem LL_nwe (a d : Int) (m : Nat) : (nw (LL a d m)).e = (m : Int) * a := by
  cases m with
  | zero => simp [LL, nw, z0]
  | succ m => rw [LL_nw, vj_e]
theorem LL_get (a d : Int) : ∀ m i, i < m → (LL a d m).getD i z0 = vj a d (i + 1)
  | 0, i, h => by omega
  | m + 1, i, h => by
    have hl := LL_len a d m
    simp only [LL, List.getD]
    rcases Nat.lt_or_ge i m with h1 | h1
    · rw [List.getElem?_append_left (by omega)]
      exact LL_get a d m i h1
    · have : i = m := by omega
      subst this
      rw [List.getElem?_append_right (by omega), hl]
      simp
theorem LL_take (a d : Int) : ∀ m q, q ≤ m → (LL a d m).take q = LL a d q
  | 0, q, h => by
    have : q = 0 := by omega
    subst this
    rfl
  | m + 1, q, h => by
    have hl := LL_len a d m
    rcases Nat.lt_or_ge q (m + 1) with h1 | h1
    · simp only [LL]
      rw [List.take_append_of_le_length (by omega)]
      exact LL_take a d m q (by omega)
    · have : q = m + 1 := by omega
      subst this
      rw [List.take_of_length_le (by rw [LL_len]; omega)]
theorem mul_le5 {j a : Int} (h0 : 0 ≤ j) (hj : j ≤ 3000) (h1 : 1 ≤ a) (h5 : a ≤ 5) : j ≤ j * a ∧ j * a ≤ 15000 := by
  have h2 := Int.mul_le_mul_of_nonneg_left h1 h0
  have h3 := Int.mul_le_mul_of_nonneg_left h5 h0
  omega
theorem vj_ok {a d : Int} {j : Nat} (h1 : 1 ≤ a) (h5 : a ≤ 5) (hj : 1 ≤ j) (hj2 : j ≤ 3000) : (vj a d j).ok := by
  have := mul_le5 (j := (j : Int)) (a := a) (by omega) (by omega) h1 h5
  unfold vj Vn.ok fits
  split
  · exact ⟨by simp; omega, by simp; omega, by simp, fun _ => rfl⟩
  · exact ⟨by simp; omega, by simp; omega, ⟨by simp only; omega, by simp only; omega⟩, fun h => by cases h⟩
theorem LL_good {a d : Int} (h1 : 1 ≤ a) (h5 : a ≤ 5) : ∀ m, m ≤ 3000 → Good (LL a d m)
  | 0, _ => Good.nil
  | m + 1, h => by
    have ih := LL_good (d := d) h1 h5 m (by omega)
    have hok := vj_ok (d := d) h1 h5 (j := m + 1) (by omega) h
    refine ⟨fun x hx => ?_, ?_⟩
    · simp only [LL, List.mem_append, List.mem_singleton] at hx
      rcases hx with hx | rfl
      · exact ih.1 x hx
      · exact hok
    · simp only [LL]
      rw [List.pairwise_append]
      refine ⟨ih.2, by simp, fun x hx y hy => ?_⟩
      simp at hy
      subst hy
      have h2 := ih.last hx
      rw [LL_nwe] at h2
      rw [vj_e]
      have : ((m + 1 : Nat) : Int) * a = (m : Int) * a + a := by
        rw [show ((m + 1 : Nat) : Int) = (m : Int) + 1 by omega, Int.add_mul, Int.one_mul]
      omega
theorem LL_put {a d : Int} (h1 : 1 ≤ a) (h5 : a ≤ 5) {m : Nat} (hm : m + 1 ≤ 3000) : wrong (LL a d m) (((m + 1 : Nat) : Int) * a) = 0 ∧ putN (LL a d m) (((m + 1 : Nat) : Int) * a) = 1 ∧ putL (LL a d m) (((m + 1 : Nat) : Int) * a) ((m + 1 : Nat) : Int) = LL a d m ++ [⟨((m + 1 : Nat) : Int) * a, true, ((m + 1 : Nat) : Int)⟩] := by
  have hb := mul_le5 (j := ((m + 1 : Nat) : Int)) (a := a) (by omega) (by omega) h1 h5
  have he := LL_nwe a d m
  have e1 : ((m + 1 : Nat) : Int) * a = (m : Int) * a + a := by
    rw [show ((m + 1 : Nat) : Int) = (m : Int) + 1 by omega, Int.add_mul, Int.one_mul]
  have hw : wrong (LL a d m) (((m + 1 : Nat) : Int) * a) = 0 := by
    unfold wrong
    rw [if_neg (by omega), if_neg (by rw [he]; omega)]
  have hne : ¬ ((m + 1 : Nat) : Int) * a = (nw (LL a d m)).e := by rw [he]; omega
  refine ⟨hw, ?_, ?_⟩
  · unfold putN
    rw [if_pos hw, if_neg hne]
  · unfold putL layL
    rw [if_pos hw, if_neg hne]
theorem LL_kill {a d : Int} (h1 : 1 ≤ a) (h5 : a ≤ 5) {m : Nat} (hm : m + 1 ≤ 3000) (hd : ((m + 1 : Nat) : Int) % d = 0) : gone (LL a d m ++ [⟨((m + 1 : Nat) : Int) * a, true, ((m + 1 : Nat) : Int)⟩]) (((m + 1 : Nat) : Int) * a) = 0 ∧ killN (LL a d m ++ [⟨((m + 1 : Nat) : Int) * a, true, ((m + 1 : Nat) : Int)⟩]) (((m + 1 : Nat) : Int) * a) = 0 ∧ killL (LL a d m ++ [⟨((m + 1 : Nat) : Int) * a, true, ((m + 1 : Nat) : Int)⟩]) (((m + 1 : Nat) : Int) * a) = LL a d (m + 1) := by
  have hb := mul_le5 (j := ((m + 1 : Nat) : Int)) (a := a) (by omega) (by omega) h1 h5
  generalize hq : ((m + 1 : Nat) : Int) * a = q at *
  generalize hL : LL a d m = L at *
  have hn := nw_snoc L ⟨q, true, ((m + 1 : Nat) : Int)⟩
  have hw : wrong (L ++ [⟨q, true, ((m + 1 : Nat) : Int)⟩]) q = 0 := by
    unfold wrong
    rw [if_neg (by omega), hn, if_neg (by simp)]
  have hg : gone (L ++ [⟨q, true, ((m + 1 : Nat) : Int)⟩]) q = 0 := by
    unfold gone
    rw [if_pos hw, hn]
    rfl
  refine ⟨hg, ?_, ?_⟩
  · unfold killN
    rw [if_pos hg, hn, if_pos rfl]
  · unfold killL layL
    rw [if_pos hg, hn, if_pos rfl]
    simp only [List.dropLast_concat, LL, hL]
    congr 2
    unfold vj
    rw [if_pos hd, hq]
theorem LL_live {a d : Int} {m : Nat} (hd : ¬ ((m + 1 : Nat) : Int) % d = 0) : LL a d m ++ [⟨((m + 1 : Nat) : Int) * a, true, ((m + 1 : Nat) : Int)⟩] = LL a d (m + 1) := by
  simp only [LL]
  congr 2
  unfold vj
  rw [if_neg hd]

/-- The number that an epoch's question comes to. -/
def wi (L : List Vn) (e a : Int) : Int := if 0 < (nw L).e ∧ (nw L).e / a < e / a then (nw L).e / a else e / a
def wasOK (L : List Vn) (e a d : Int) : Prop := if wi L e a = 0 ∨ wi L e a % d = 0 then tell (atL L e) = (0, false) else tell (atL L e) = (wi L e a, true)
theorem tell_vj (a d : Int) (j : Nat) : tell (vj a d j) = if (j : Int) % d = 0 then (0, false) else ((j : Int), true) := by
  unfold vj
  split <;> rfl
theorem LL_at {a d : Int} (h1 : 1 ≤ a) (h5 : a ≤ 5) {n : Nat} (hn : n ≤ 3000) {e : Int} (h0 : 0 ≤ e) (hlt : e < (n : Int) * a) : tell (atL (LL a d n) e) = if e / a = 0 ∨ (e / a) % d = 0 then (0, false) else (e / a, true) := by
  have hg := LL_good (d := d) h1 h5 n hn
  have hq0 : 0 ≤ e / a := Int.ediv_nonneg h0 (by omega)
  have hq1 : e / a < n := Int.ediv_lt_of_lt_mul (by omega) hlt
  have hq2 : e / a * a ≤ e := Int.ediv_mul_le e (by omega)
  have hq3 : e < (e / a + 1) * a := Int.lt_ediv_add_one_mul_self e (by omega)
  obtain ⟨q, hq⟩ : ∃ q : Nat, e / a = (q : Int) := ⟨(e / a).toNat, by omega⟩
  rw [hq] at hq1 hq2 hq3 ⊢
  have hl := LL_len a d n
  have hup : up (LL a d n) e = q := by
    refine up_eq hg.2 e (by omega) (fun i hi => ?_) (fun h => ?_)
    · rw [LL_get a d n i (by omega), vj_e]
      have := Int.mul_le_mul_of_nonneg_right (show ((i + 1 : Nat) : Int) ≤ (q : Int) by omega) (show 0 ≤ a by omega)
      omega
    · rw [LL_get a d n q (by omega), vj_e]
      rw [show ((q + 1 : Nat) : Int) = (q : Int) + 1 by omega]
      exact hq3
  unfold atL
  rw [hup, LL_take a d n q (by omega)]
  cases q with
  | zero => simp [LL, nw, z0, tell]
  | succ q =>
    rw [LL_nw, tell_vj]
    by_cases hd : ((q + 1 : Nat) : Int) % d = 0
    · rw [if_pos hd, if_pos (Or.inr hd)]
    · rw [if_neg hd, if_neg (by omega)]
theorem wi_low {L : List Vn} {a d e : Int} {n : Nat} (h1 : 1 ≤ a) (hlt : e < (n : Int) * a) (hL : nw L = nw (LL a d n) ∨ L = []) : wi L e a = e / a := by
  unfold wi
  refine if_neg (fun h => ?_)
  rcases hL with hL | hL
  · have h2 := h.2
    rw [hL, LL_nwe, Int.mul_ediv_cancel _ (by omega)] at h2
    have hq1 : e / a < n := Int.ediv_lt_of_lt_mul (by omega) hlt
    omega
  · subst hL
    have := h.1
    simp [nw, z0] at this
theorem was_one {a d e : Int} {n : Nat} (h1 : 1 ≤ a) (h5 : a ≤ 5) (hn : n ≤ 3000) (h0 : 0 ≤ e) (hlt : e < (n : Int) * a) : wasOK (LL a d n) e a d := by
  unfold wasOK
  rw [wi_low (d := d) (n := n) h1 hlt (Or.inl rfl), LL_at h1 h5 hn h0 hlt]
  split <;> rfl
theorem was_two {a d e : Int} {n : Nat} {held : List Int} (h1 : 1 ≤ a) (h5 : a ≤ 5) (hn : n ≤ 3000) (h0 : 0 ≤ e) (hlt : e < (n : Int) * a) (he : e ∈ held) : wasOK (pruneL held (LL a d n)) e a d := by
  have hg := LL_good (d := d) h1 h5 n hn
  have hw : wi (pruneL held (LL a d n)) e a = e / a := wi_low (d := d) (n := n) h1 hlt (by
    rcases pruneL_nw (held := held) (L := LL a d n) with h | h
    · exact Or.inl h
    · exact Or.inr h.1)
  unfold wasOK
  rw [hw, pruneL_at hg (Or.inl he), LL_at h1 h5 hn h0 hlt]
  split <;> rfl
theorem was_three {a d : Int} {n : Nat} {held : List Int} (h1 : 1 ≤ a) (h5 : a ≤ 5) (hn : n ≤ 3000) (hn0 : n ≠ 0) (hL : pruneL held (LL a d n) ≠ []) : wasOK (pruneL held (LL a d n)) ((n : Int) * a + 7) a d := by
  have hg := LL_good (d := d) h1 h5 n hn
  have hnw : nw (pruneL held (LL a d n)) = nw (LL a d n) := by
    rcases pruneL_nw (held := held) (L := LL a d n) with h | h
    · exact h
    · exact absurd h.1 hL
  have hb := mul_le5 (j := (n : Int)) (a := a) (by omega) (by omega) h1 h5
  have hw : wi (pruneL held (LL a d n)) ((n : Int) * a + 7) a = n := by
    unfold wi
    rw [hnw, LL_nwe, Int.mul_ediv_cancel _ (by omega)]
    have : (n : Int) < ((n : Int) * a + 7) / a := by
      have h2 : (n : Int) + 1 ≤ ((n : Int) * a + 7) / a := Int.le_ediv_of_mul_le (by omega) (by rw [Int.add_mul, Int.one_mul]; omega)
      omega
    rw [if_pos ⟨by omega, this⟩]
  unfold wasOK
  rw [hw, atL_new (pruneL_good hg) (by rw [hnw, LL_nwe]; omega), hnw]
  obtain ⟨m, rfl⟩ : ∃ m, n = m + 1 := ⟨n - 1, by omega⟩
  rw [LL_nw, tell_vj]
  by_cases hd : ((m + 1 : Nat) : Int) % d = 0
  · rw [if_pos (Or.inr hd), if_pos hd]
  · rw [if_neg (by omega), if_neg hd]
theorem dead_gone {a d : Int} {n : Nat} {held : List Int} (hn0 : n ≠ 0) (hL : pruneL held (LL a d n) = []) : (n : Int) % d = 0 := by
  obtain ⟨m, rfl⟩ : ∃ m, n = m + 1 := ⟨n - 1, by omega⟩
  have ht : (nw (LL a d (m + 1))).t = false := by
    rcases pruneL_nw (held := held) (L := LL a d (m + 1)) with h | h
    · rw [hL] at h
      rw [← h]
      rfl
    · exact h.2
  rw [LL_nw] at ht
  unfold vj at ht
  by_cases hd : ((m + 1 : Nat) : Int) % d = 0
  · exact hd
  · rw [if_neg hd] at ht
    cases ht
end Go.Proofs.Ytcmniejffpoinaa
