/- What is written is read: a number whole, and of a front of it the cut. Nothing of the program is used here. -/
import Derived.Test.YtdhobmnljniccabRmore
namespace Go.Proofs.Ytdhobmnljniccab
open Go.RowKit

theorem drop_head {xs r : List Nat} {q a : Nat} (h : xs.drop q = a :: r) : q < xs.length ∧ xs.getD q 0 = a ∧ xs.drop (q + 1) = r := by
  have hq : q < xs.length := by
    rcases Nat.lt_or_ge q xs.length with h' | h'
    · exact h'
    · rw [List.drop_eq_nil_of_le h'] at h
      cases h
  rw [List.drop_eq_getElem_cons hq] at h
  simp only [List.cons.injEq] at h
  exact ⟨hq, by simp [List.getD, List.getElem?_eq_getElem hq, h.1], h.2⟩

theorem rb_fwd (xs rest : List Nat) (p : Nat) : ∀ (g k f u n : Nat), g + k = 9 → (sev g n).length ≤ f → n * 128 ^ k + u < 18446744073709551616 → u < 128 ^ k → (k = 0 ∨ n ≠ 0) → xs.drop (p + k) = sev g n ++ rest →
    rb xs p f k u = (0, 0, u + n * 128 ^ k, p + k + (sev g n).length) := by
  intro g
  induction g with
  | zero =>
    intro k f u n hgk hf hb hu hn hd
    obtain rfl : k = 9 := by omega
    rw [sev] at hf hd ⊢
    obtain ⟨h1, h2, h3⟩ := drop_head hd
    obtain ⟨f, rfl⟩ : ∃ f', f = f' + 1 := ⟨f - 1, by simp at hf; omega⟩
    have hn1 : n = 1 := by
      have : (128 : Nat) ^ 9 = 9223372036854775808 := by decide
      rw [this] at hb
      rcases hn with h | h
      · omega
      · omega
    subst hn1
    rw [rb_good xs p f 9 u 1 h2 (by omega) (by decide) (by decide)]
    simp
  | succ g ih =>
    intro k f u n hgk hf hb hu hn hd
    by_cases h128 : 128 ≤ n
    · rw [sev_more g n h128] at hf hd ⊢
      obtain ⟨h1, h2, h3⟩ := drop_head hd
      obtain ⟨f, rfl⟩ : ∃ f', f = f' + 1 := ⟨f - 1, by simp at hf; omega⟩
      rw [List.length_cons] at hf
      have hk9 : 128 ^ (k + 1) = 128 ^ k * 128 := Nat.pow_succ ..
      have hsplit : n * 128 ^ k = n % 128 * 128 ^ k + n / 128 * (128 ^ k * 128) := by
        have h := Nat.div_add_mod n 128
        have e : n * 128 ^ k = (128 * (n / 128) + n % 128) * 128 ^ k := by rw [h]
        rw [e, Nat.add_mul, Nat.mul_comm (128 ^ k) 128, ← Nat.mul_assoc, Nat.mul_comm (n / 128) 128, Nat.add_comm]
      have hsm : n % 128 * 128 ^ k % 18446744073709551616 = n % 128 * 128 ^ k := Nat.mod_eq_of_lt (by omega)
      have hm : (n % 128 + 128) % 128 = n % 128 := by omega
      rw [rb_more xs p f k u (n % 128 + 128) h2 (by omega) (by omega), hm, hsm]
      have hlt : u + n % 128 * 128 ^ k < 128 ^ (k + 1) := by
        have h1 : n % 128 * 128 ^ k ≤ 127 * 128 ^ k := Nat.mul_le_mul_right _ (by omega)
        rw [hk9]
        omega
      have := ih (k + 1) f (u + n % 128 * 128 ^ k) (n / 128) (by omega) (by omega) (by rw [hk9]; omega) hlt (Or.inr (by omega)) (by rw [← Nat.add_assoc]; exact h3)
      rw [this, hk9, List.length_cons]
      simp only [Prod.mk.injEq, true_and]
      constructor
      · omega
      · omega
    · rw [sev_last _ n (by omega)] at hf hd ⊢
      obtain ⟨h1, h2, h3⟩ := drop_head hd
      obtain ⟨f, rfl⟩ : ∃ f', f = f' + 1 := ⟨f - 1, by simp at hf; omega⟩
      have hl : lastOk n k = true := by
        unfold lastOk
        split
        · rfl
        · rw [if_neg (show ¬ k = 9 by omega)]
          rcases hn with h | h
          · omega
          · simpa using h
      have hsm : n % 128 * 128 ^ k % 18446744073709551616 = n * 128 ^ k := by
        rw [Nat.mod_eq_of_lt (show n < 128 by omega)]
        exact Nat.mod_eq_of_lt (by omega)
      rw [rb_good xs p f k u n h2 (by omega) (by omega) hl, hsm]
      simp

/-- Of a front of a number: the cut. -/
theorem rb_front (xs t : List Nat) (p : Nat) (ht : t ≠ []) : ∀ (g k f u n : Nat), (sev g n).length ≤ f → p + k ≤ xs.length → xs.drop (p + k) ++ t = sev g n → rb xs p f k u = (11, xs.length, 0, p) := by
  intro g
  induction g with
  | zero =>
    intro k f u n hf hk hd
    rw [sev] at hf hd
    obtain ⟨f, rfl⟩ : ∃ f', f = f' + 1 := ⟨f - 1, by simp at hf; omega⟩
    cases hx : xs.drop (p + k) with
    | nil =>
      have := congrArg List.length hx
      simp at this
      exact rb_cut xs p f k u (by omega)
    | cons a r =>
      rw [hx] at hd
      have := congrArg List.length hd
      have h2 := List.length_pos_iff.2 ht
      simp only [List.length_append, List.length_cons, List.length_nil] at this
      omega
  | succ g ih =>
    intro k f u n hf hk hd
    have hlen := (sev_length (g + 1) n).2
    obtain ⟨f, rfl⟩ : ∃ f', f = f' + 1 := ⟨f - 1, by omega⟩
    cases hx : xs.drop (p + k) with
    | nil =>
      have := congrArg List.length hx
      simp at this
      exact rb_cut xs p f k u (by omega)
    | cons a r =>
      obtain ⟨h1, h2, h3⟩ := drop_head hx
      by_cases h128 : 128 ≤ n
      · rw [hx, sev_more g n h128, List.cons_append, List.cons.injEq] at hd
        rw [sev_more g n h128, List.length_cons] at hf
        rw [rb_more xs p f k u a h2 (by omega) (by omega)]
        exact ih (k + 1) f _ (n / 128) (by omega) (by omega) (by rw [← Nat.add_assoc, h3]; exact hd.2)
      · rw [hx, sev_last _ n (by omega)] at hd
        have := congrArg List.length hd
        have h2 := List.length_pos_iff.2 ht
        simp only [List.length_append, List.length_cons, List.length_nil] at this
        omega

/-- Num and Int, of what was written. -/
theorem rb_num (xs rest : List Nat) (p n : Nat) (hn : n < 9223372036854775808) (hd : xs.drop p = sev 9 n ++ rest) : rb xs p 9 0 0 = (0, 0, n, p + (sev 9 n).length) := by
  have h9 : (sev 9 n).length ≤ 9 := by
    have hs : ∀ (g n : Nat), n < 128 ^ g → 1 ≤ g → (sev g n).length ≤ g := by
      intro g
      induction g with
      | zero => intro n _ h; omega
      | succ g ih =>
        intro n hn _
        by_cases h : 128 ≤ n
        · rw [sev_more g n h, List.length_cons]
          have hp : 128 ^ (g + 1) = 128 ^ g * 128 := Nat.pow_succ ..
          rw [hp] at hn
          rcases Nat.eq_zero_or_pos g with h0 | h0
          · subst h0
            simp at hn
            omega
          · have := ih (n / 128) (by omega) h0
            omega
        · rw [sev_last _ n (by omega)]
          simp
    exact hs 9 n (by omega) (by decide)
  have := rb_fwd xs rest p 9 0 9 0 n rfl h9 (by omega) (by decide) (Or.inl rfl) (by simpa using hd)
  simpa using this
theorem rb_int (xs rest : List Nat) (p n : Nat) (hn : n < 18446744073709551616) (hd : xs.drop p = sev 9 n ++ rest) : rb xs p 10 0 0 = (0, 0, n, p + (sev 9 n).length) := by
  have := rb_fwd xs rest p 9 0 10 0 n rfl (sev_length 9 n).1 (by omega) (by decide) (Or.inl rfl) (by simpa using hd)
  simpa using this
theorem zag_zig (n : Int) : zag (zig n) = n := by
  unfold zag zig
  split <;> split <;> omega
end Go.Proofs.Ytdhobmnljniccab
