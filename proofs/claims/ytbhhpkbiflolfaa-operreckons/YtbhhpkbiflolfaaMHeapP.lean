/- A heap as a list: going up, going down, and what follows: the same elements, the least one first. Nothing of the program is used here. -/
namespace Go.Proofs.Ytbhhpkbiflolfaa.M

section
variable {α : Type} [Inhabited α]

/-- The element at a place. -/
def at' (xs : List α) (k : Nat) : α := xs[k]?.getD default
/-- Two places change their elements. -/
def swap (xs : List α) (i j : Nat) : List α := (xs.set i (at' xs j)).set j (at' xs i)

theorem swap_len (xs : List α) (i j : Nat) : (swap xs i j).length = xs.length := by simp [swap]
theorem at_get {xs : List α} {k : Nat} (h : k < xs.length) : at' xs k = xs[k] := by simp [at', h]
theorem at_mem {xs : List α} {k : Nat} (h : k < xs.length) : at' xs k ∈ xs := by rw [at_get h]; exact List.getElem_mem h
theorem at_set {xs : List α} {i k : Nat} {v : α} (h : i < xs.length) : at' (xs.set i v) k = if i = k then v else at' xs k := by
  unfold at'
  rw [List.getElem?_set]
  by_cases hk : i = k
  · rw [if_pos hk, if_pos hk, if_pos h]
    rfl
  · rw [if_neg hk, if_neg hk]
theorem at_swap {xs : List α} {i j k : Nat} (hi : i < xs.length) (hj : j < xs.length) : at' (swap xs i j) k = if j = k then at' xs i else if i = k then at' xs j else at' xs k := by
  unfold swap
  rw [at_set (by simp; exact hj)]
  by_cases hk : j = k
  · rw [if_pos hk, if_pos hk]
  · rw [if_neg hk, if_neg hk, at_set hi]
theorem at_append {xs ys : List α} {k : Nat} (h : k < xs.length) : at' (xs ++ ys) k = at' xs k := by
  unfold at'
  rw [List.getElem?_append_left h]
theorem at_dropLast {xs : List α} {k : Nat} (h : k < xs.length - 1) : at' xs.dropLast k = at' xs k := by
  unfold at'
  rw [List.getElem?_dropLast, if_pos h]

open Classical in
theorem swap_perm (xs : List α) (i j : Nat) (hi : i < xs.length) (hj : j < xs.length) : (swap xs i j).Perm xs := by
  rw [List.perm_iff_count]
  intro a
  unfold swap
  rw [List.count_set (by simp; exact hj), List.count_set hi]
  have e1 := at_get hi
  have e2 := at_get hj
  have hc : ∀ k, (hk : k < xs.length) → (xs[k] == a) = true → 0 < xs.count a := by
    intro k hk h
    rw [List.count_pos_iff]
    have h2 : xs[k] = a := by simpa using h
    rw [← h2]
    exact List.getElem_mem hk
  rw [List.getElem_set]
  by_cases hij : i = j
  · subst hij
    rw [if_pos rfl, e1]
    have := hc i hi
    by_cases h : (xs[i] == a) = true
    · have := this h
      rw [if_pos h]
      omega
    · rw [if_neg h]
      omega
  · rw [if_neg hij, e1, e2]
    have h1 := hc i hi
    have h2 := hc j hj
    by_cases ha : (xs[i] == a) = true <;> by_cases hb : (xs[j] == a) = true
    · have := h1 ha
      rw [if_pos ha, if_pos hb]
      omega
    · have := h1 ha
      rw [if_pos ha, if_neg hb]
      omega
    · have := h2 hb
      rw [if_neg ha, if_pos hb]
      omega
    · rw [if_neg ha, if_neg hb]
      omega

variable (lt : α → α → Bool)

/-- An order by which a heap is kept. -/
structure Ord : Prop where
  asym : ∀ a b, lt a b = true → lt b a = false
  trans : ∀ a b c, lt b a = false → lt c b = false → lt c a = false

/-- The parent of a place. -/
def par (j : Nat) : Nat := (j - 1) / 2

/-- Going up from a place. -/
def up (xs : List α) (j : Nat) : List α :=
  if _h : par j = j ∨ lt (at' xs j) (at' xs (par j)) = false then xs else up (swap xs (par j) j) (par j)
termination_by j
decreasing_by
  have : par j ≠ j := fun hh => _h (Or.inl hh)
  unfold par at *
  omega

/-- The lesser child. -/
def kid (xs : List α) (i n : Nat) : Nat := if 2 * i + 2 < n ∧ lt (at' xs (2 * i + 2)) (at' xs (2 * i + 1)) = true then 2 * i + 2 else 2 * i + 1

theorem kid_range (xs : List α) (i n : Nat) (h : 2 * i + 1 < n) : i < kid lt xs i n ∧ kid lt xs i n < n ∧ (kid lt xs i n = 2 * i + 1 ∨ kid lt xs i n = 2 * i + 2) := by
  unfold kid
  split <;> omega

/-- Going down from a place, among the first n: where it ends, and the row. -/
def down (xs : List α) (i n : Nat) : List α × Nat :=
  if _h : n ≤ 2 * i + 1 ∨ lt (at' xs (kid lt xs i n)) (at' xs i) = false then (xs, i) else down (swap xs i (kid lt xs i n)) (kid lt xs i n) n
termination_by n - i
decreasing_by
  have := kid_range lt xs i n (by omega)
  omega

/-- A heap: no element is less than its parent. -/
def Hp (xs : List α) (n : Nat) : Prop := ∀ k, 0 < k → k < n → lt (at' xs k) (at' xs (par k)) = false

variable {lt}

theorem Hp.least (O : Ord lt) {xs : List α} {n : Nat} (h : Hp lt xs n) (k : Nat) : k < n → lt (at' xs k) (at' xs 0) = false := by
  induction k using Nat.strongRecOn with
  | _ k ih =>
    intro hk
    by_cases h0 : k = 0
    · subst h0
      cases he : lt (at' xs 0) (at' xs 0) with
      | false => rfl
      | true => have := O.asym _ _ he; rw [he] at this; exact this
    · have h1 := h k (by omega) hk
      have hp : par k < k := by unfold par; omega
      exact O.trans _ _ _ (ih (par k) hp (by omega)) h1

/-- A heap but for the place that goes up. -/
structure UpI (lt : α → α → Bool) (xs : List α) (j : Nat) : Prop where
  a : ∀ k, 0 < k → k < xs.length → k ≠ j → lt (at' xs k) (at' xs (par k)) = false
  b : ∀ k, 0 < k → k < xs.length → par k = j → 0 < j → lt (at' xs k) (at' xs (par j)) = false

theorem UpI.step (O : Ord lt) {xs : List α} {j : Nat} (h : UpI lt xs j) (hj : j < xs.length) (hp : par j ≠ j) (hl : lt (at' xs j) (at' xs (par j)) = true) : UpI lt (swap xs (par j) j) (par j) := by
  have hpj : par j < j := by unfold par at *; omega
  have hi : par j < xs.length := by omega
  refine ⟨fun k h0 hk hne => ?_, fun k h0 hk hpk hi0 => ?_⟩
  · rw [swap_len] at hk
    rw [at_swap hi hj, at_swap hi hj]
    by_cases hkj : j = k
    · subst hkj
      rw [if_pos rfl, if_neg (by omega), if_pos rfl]
      exact O.asym _ _ hl
    · rw [if_neg hkj, if_neg (by omega)]
      by_cases h1 : j = par k
      · rw [if_pos h1]
        exact h.b k h0 hk h1.symm (by omega)
      · rw [if_neg h1]
        by_cases h2 : par j = par k
        · rw [if_pos h2]
          have := h.a k h0 hk (by omega)
          rw [← h2] at this
          exact O.trans _ _ _ (O.asym _ _ hl) this
        · rw [if_neg h2]
          exact h.a k h0 hk (by omega)
  · rw [swap_len] at hk
    have hpp : par (par j) < par j := by unfold par at *; omega
    rw [at_swap hi hj, at_swap hi hj, if_neg (show ¬ j = par (par j) by omega), if_neg (show ¬ par j = par (par j) by omega)]
    have hia := h.a (par j) hi0 hi (by omega)
    by_cases hkj : j = k
    · subst hkj
      rw [if_pos rfl]
      exact hia
    · have hk2 : par k < k := by unfold par; omega
      rw [if_neg hkj, if_neg (by omega)]
      have := h.a k h0 hk (by omega)
      rw [hpk] at this
      exact O.trans _ _ _ hia this

theorem up_heap (O : Ord lt) (j : Nat) : ∀ xs : List α, j < xs.length → UpI lt xs j → (up lt xs j).Perm xs ∧ Hp lt (up lt xs j) xs.length := by
  induction j using Nat.strongRecOn with
  | _ j ih =>
    intro xs hj h
    rw [up]
    split
    · rename_i hc
      refine ⟨List.Perm.refl _, fun k h0 hk => ?_⟩
      by_cases hkj : k = j
      · subst hkj
        rcases hc with hc | hc
        · exfalso
          unfold par at hc
          omega
        · exact hc
      · exact h.a k h0 hk hkj
    · rename_i hc
      have hp : par j ≠ j := fun hh => hc (Or.inl hh)
      have hl : lt (at' xs j) (at' xs (par j)) = true := by
        cases he : lt (at' xs j) (at' xs (par j)) with
        | true => rfl
        | false => exact absurd (Or.inr he) hc
      have hpj : par j < j := by unfold par at *; omega
      have := ih (par j) hpj (swap xs (par j) j) (by rw [swap_len]; omega) (h.step O hj hp hl)
      rw [swap_len] at this
      exact ⟨this.1.trans (swap_perm _ _ _ (by omega) hj), this.2⟩

/-- A row whose last element was just put there goes up. -/
theorem push_heap (O : Ord lt) {xs : List α} {x : α} (h : Hp lt xs xs.length) : (up lt (xs ++ [x]) xs.length).Perm (xs ++ [x]) ∧ Hp lt (up lt (xs ++ [x]) xs.length) (xs.length + 1) := by
  have := up_heap O xs.length (xs ++ [x]) (by simp) ⟨fun k h0 hk hne => by
    have hk2 : k < xs.length := by simp at hk; omega
    rw [at_append hk2, at_append (show par k < xs.length by unfold par; omega)]
    exact h k h0 hk2, fun k h0 hk hp hj => by
    simp at hk
    exfalso
    unfold par at hp
    omega⟩
  simp only [List.length_append, List.length_cons, List.length_nil, Nat.zero_add] at this
  exact this

/-- A heap but for the place that goes down. -/
structure DnI (lt : α → α → Bool) (xs : List α) (i n : Nat) : Prop where
  a : ∀ k, 0 < k → k < n → par k ≠ i → lt (at' xs k) (at' xs (par k)) = false
  b : ∀ k, 0 < k → k < n → par k = i → 0 < i → lt (at' xs k) (at' xs (par i)) = false

theorem kid_least (O : Ord lt) {xs : List α} {i n k : Nat} (h0 : 0 < k) (hk : k < n) (hp : par k = i) : lt (at' xs k) (at' xs (kid lt xs i n)) = false := by
  have hr : ∀ a : α, lt a a = false := by
    intro a
    cases he : lt a a with
    | false => rfl
    | true => have := O.asym _ _ he; rw [he] at this; exact this
  have hk2 : k = 2 * i + 1 ∨ k = 2 * i + 2 := by unfold par at hp; omega
  unfold kid
  split
  · rename_i hc
    rcases hk2 with e | e <;> subst e
    · exact O.asym _ _ hc.2
    · exact hr _
  · rename_i hc
    rcases hk2 with e | e <;> subst e
    · exact hr _
    · cases he : lt (at' xs (2 * i + 2)) (at' xs (2 * i + 1)) with
      | false => rfl
      | true => exact absurd ⟨hk, he⟩ hc

theorem DnI.step (O : Ord lt) {xs : List α} {i n : Nat} (h : DnI lt xs i n) (hn : n ≤ xs.length) (hc : 2 * i + 1 < n) (hl : lt (at' xs (kid lt xs i n)) (at' xs i) = true) : DnI lt (swap xs i (kid lt xs i n)) (kid lt xs i n) n := by
  obtain ⟨r1, r2, r3⟩ := kid_range lt xs i n hc
  generalize hj : kid lt xs i n = j at *
  have hpj : par j = i := by unfold par; omega
  have hi : i < xs.length := by omega
  have hjl : j < xs.length := by omega
  refine ⟨fun k h0 hk hne => ?_, fun k h0 hk hpk hj0 => ?_⟩
  · rw [at_swap hi hjl, at_swap hi hjl, if_neg (show ¬ j = par k from fun e => hne e.symm)]
    by_cases h1 : j = k
    · subst h1
      rw [if_pos rfl, hpj, if_pos rfl]
      exact O.asym _ _ hl
    · rw [if_neg h1]
      by_cases h2 : i = par k
      · have hik : i ≠ k := by have : par k < k := by unfold par; omega
                               omega
        rw [if_neg hik, if_pos h2]
        have := kid_least (lt := lt) (xs := xs) O h0 hk h2.symm
        rw [← h2, hj] at *
        exact this
      · rw [if_neg h2]
        by_cases h3 : i = k
        · subst h3
          rw [if_pos rfl]
          exact h.b j (by omega) r2 hpj h0
        · rw [if_neg h3]
          exact h.a k h0 hk (fun e => h2 e.symm)
  · have hkj : j < k := by unfold par at hpk; omega
    rw [at_swap hi hjl, at_swap hi hjl, if_neg (show ¬ j = k by omega), if_neg (show ¬ i = k by omega), hpj, if_neg (show ¬ j = i by omega), if_pos rfl]
    have := h.a k h0 hk (by omega)
    rw [hpk] at this
    exact this

theorem down_heap (O : Ord lt) (m : Nat) : ∀ (xs : List α) (i n : Nat), n - i = m → n ≤ xs.length → DnI lt xs i n → (down lt xs i n).1.Perm xs ∧ Hp lt (down lt xs i n).1 n ∧ (∀ k, n ≤ k → at' (down lt xs i n).1 k = at' xs k) := by
  induction m using Nat.strongRecOn with
  | _ m ih =>
    intro xs i n hm hn h
    rw [down]
    split
    · rename_i hc
      refine ⟨List.Perm.refl _, fun k h0 hk => ?_, fun k _ => rfl⟩
      by_cases hki : par k = i
      · rcases hc with hc | hc
        · exfalso
          unfold par at hki
          omega
        · have := kid_least (lt := lt) (xs := xs) O h0 hk hki
          simp only at this ⊢
          rw [hki]
          exact O.trans _ _ _ hc this
      · exact h.a k h0 hk hki
    · rename_i hc
      have hc1 : 2 * i + 1 < n := by omega
      have hl : lt (at' xs (kid lt xs i n)) (at' xs i) = true := by
        cases he : lt (at' xs (kid lt xs i n)) (at' xs i) with
        | true => rfl
        | false => exact absurd (Or.inr he) hc
      obtain ⟨r1, r2, r3⟩ := kid_range lt xs i n hc1
      have := ih (n - kid lt xs i n) (by omega) (swap xs i (kid lt xs i n)) (kid lt xs i n) n rfl (by rw [swap_len]; exact hn) (h.step O hn hc1 hl)
      refine ⟨this.1.trans (swap_perm _ _ _ (by omega) (by omega)), this.2.1, fun k hk => ?_⟩
      rw [this.2.2 k hk, at_swap (by omega) (by omega), if_neg (by omega), if_neg (by omega)]

theorem down_len (m : Nat) : ∀ (xs : List α) (i n : Nat), n - i = m → (down lt xs i n).1.length = xs.length := by
  induction m using Nat.strongRecOn with
  | _ m ih =>
    intro xs i n hm
    rw [down]
    split
    · rfl
    · rename_i hc
      have hc1 : 2 * i + 1 < n := by omega
      obtain ⟨r1, r2, r3⟩ := kid_range lt xs i n hc1
      rw [ih (n - kid lt xs i n) (by omega) _ _ n rfl, swap_len]

theorem down_perm (m : Nat) : ∀ (xs : List α) (i n : Nat), n - i = m → n ≤ xs.length → (down lt xs i n).1.Perm xs := by
  induction m using Nat.strongRecOn with
  | _ m ih =>
    intro xs i n hm hn
    rw [down]
    split
    · exact List.Perm.refl _
    · rename_i hc
      have hc1 : 2 * i + 1 < n := by omega
      obtain ⟨r1, r2, r3⟩ := kid_range lt xs i n hc1
      exact (ih (n - kid lt xs i n) (by omega) _ _ n rfl (by rw [swap_len]; exact hn)).trans (swap_perm _ _ _ (by omega) (by omega))
theorem up_perm (j : Nat) : ∀ xs : List α, j < xs.length → (up lt xs j).Perm xs := by
  induction j using Nat.strongRecOn with
  | _ j ih =>
    intro xs hj
    rw [up]
    split
    · exact List.Perm.refl _
    · rename_i hc
      have hp : par j ≠ j := fun hh => hc (Or.inl hh)
      have hpj : par j < j := by unfold par at *; omega
      exact (ih (par j) hpj _ (by rw [swap_len]; omega)).trans (swap_perm _ _ _ (by omega) hj)

/-- A heap whose first element was changed is mended by going down. -/
theorem fix_heap (O : Ord lt) {xs : List α} {x : α} (h : Hp lt xs xs.length) (h0 : 0 < xs.length) : (down lt (xs.set 0 x) 0 xs.length).1.Perm (xs.set 0 x) ∧ Hp lt (down lt (xs.set 0 x) 0 xs.length).1 xs.length := by
  have := down_heap O _ (xs.set 0 x) 0 xs.length rfl (by simp) ⟨fun k hk hn hp => by
    rw [at_set h0, at_set h0, if_neg (by omega), if_neg (by omega)]
    exact h k hk hn, fun k _ _ _ h => absurd h (by omega)⟩
  exact ⟨this.1, this.2.1⟩

/-- What is left when the first element is taken away: the last one is put first and goes down. -/
def popH (lt : α → α → Bool) (xs : List α) : List α := (down lt (swap xs 0 (xs.length - 1)) 0 (xs.length - 1)).1.dropLast

theorem pop_heap (y : α) (O : Ord lt) {x : α} {xs : List α} (h : Hp lt (x :: xs) (xs.length + 1)) : (popH lt (y :: xs)).Perm xs ∧ Hp lt (popH lt (y :: xs)) xs.length ∧ (popH lt (y :: xs)).length = xs.length := by
  have hyx : ∀ k, 0 < k → at' (y :: xs) k = at' (x :: xs) k := fun k hk => by
    cases k with
    | zero => omega
    | succ k => rfl
  have hlen : ((down lt (swap (y :: xs) 0 xs.length) 0 xs.length).1).length = xs.length + 1 := by rw [down_len _ _ _ _ rfl, swap_len]; rfl
  have D := down_heap O _ (swap (y :: xs) 0 xs.length) 0 xs.length rfl (by rw [swap_len]; simp) ⟨fun k hk hn hp => by
    rw [at_swap (by simp) (by simp), at_swap (by simp) (by simp), if_neg (by omega), if_neg (by omega), if_neg (show ¬ xs.length = par k by unfold par; omega), if_neg (by omega), hyx k hk, hyx (par k) (by omega)]
    exact h k hk (by omega), fun k _ _ _ h => absurd h (by omega)⟩
  unfold popH
  simp only [List.length_cons, Nat.add_sub_cancel]
  generalize hd : (down lt (swap (y :: xs) 0 xs.length) 0 xs.length).1 = ys at *
  obtain ⟨d1, d2, d3⟩ := D
  have hl : at' ys xs.length = y := by
    rw [d3 _ (Nat.le_refl _), at_swap (by simp) (by simp), if_pos rfl]
    rfl
  have hys : ys = ys.dropLast ++ [y] := by
    have hne : ys ≠ [] := by intro e; rw [e] at hlen; simp at hlen
    have := (List.dropLast_concat_getLast hne).symm
    rw [List.getLast_eq_getElem] at this
    have e2 := at_get (xs := ys) (k := ys.length - 1) (by omega)
    rw [← e2, hlen, Nat.add_sub_cancel, hl] at this
    exact this
  refine ⟨?_, fun k h0 hk => ?_, by simp [hlen]⟩
  · have p1 : (ys.dropLast ++ [y]).Perm (y :: xs) := by
      rw [← hys]
      exact d1.trans (swap_perm _ _ _ (by simp) (by simp))
    have p2 : (y :: ys.dropLast).Perm (ys.dropLast ++ [y]) := (List.perm_append_singleton y ys.dropLast).symm
    exact (p2.trans p1).cons_inv
  · rw [at_dropLast (by omega), at_dropLast (by unfold par; omega)]
    exact d2 k h0 hk

end
end Go.Proofs.Ytbhhpkbiflolfaa.M
