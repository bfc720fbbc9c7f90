/- Texts of one proof, joined. -/
section
/- A heap as a list: going up, going down, and what follows: the same elements, the least one first. Nothing of the program is used here. -/
namespace Go.Proofs.Ytilgkfpicdmkkaa.M

section
variable {α : Type} [Inhabited α]

/-- The element at a place. -/
def at' (xs : List α) (k : Nat) : α := xs[k]?.getD default
/-- Two places change their elements. -/
def swap (xs : List α) (i j : Nat) : List α := (xs.set i (at' xs j)).set j (at' xs i)

theorem swap_len (xs : List α) (i j : Nat) : (swap xs i j).length = xs.length := by simp [swap]
theorem at_get {xs : List α} {k : Nat} (h : k < xs.length) : at' xs k = xs[k] := by simp [at', h]
theorem at_mem {xs : List α} {k : Nat} (h : k < xs.length) : at' xs k ∈ xs := by rw [at_get h]; exact List.getElem_mem h
theorem at_set {xs : List α} {i k : Nat} {v : α} (h : i < xs.length) : at' (xs.set i v) k = if i = k then v else at' xs k := by
  unfold at'
  rw [List.getElem?_set]
  by_cases hk : i = k
  · rw [if_pos hk, if_pos hk, if_pos h]
    rfl
  · rw [if_neg hk, if_neg hk]
theorem at_swap {xs : List α} {i j k : Nat} (hi : i < xs.length) (hj : j < xs.length) : at' (swap xs i j) k = if j = k then at' xs i else if i = k then at' xs j else at' xs k := by
  unfold swap
  rw [at_set (by simp; exact hj)]
  by_cases hk : j = k
  · rw [if_pos hk, if_pos hk]
  · rw [if_neg hk, if_neg hk, at_set hi]
theorem at_append {xs ys : List α} {k : Nat} (h : k < xs.length) : at' (xs ++ ys) k = at' xs k := by
  unfold at'
  rw [List.getElem?_append_left h]
theorem at_dropLast {xs : List α} {k : Nat} (h : k < xs.length - 1) : at' xs.dropLast k = at' xs k := by
  unfold at'
  rw [List.getElem?_dropLast, if_pos h]

open Classical in
theorem swap_perm (xs : List α) (i j : Nat) (hi : i < xs.length) (hj : j < xs.length) : (swap xs i j).Perm xs := by
  rw [List.perm_iff_count]
  intro a
  unfold swap
  rw [List.count_set (by simp; exact hj), List.count_set hi]
  have e1 := at_get hi
  have e2 := at_get hj
  have hc : ∀ k, (hk : k < xs.length) → (xs[k] == a) = true → 0 < xs.count a := by
    intro k hk h
    rw [List.count_pos_iff]
    have h2 : xs[k] = a := by simpa using h
    rw [← h2]
    exact List.getElem_mem hk
  rw [List.getElem_set]
  by_cases hij : i = j
  · subst hij
    rw [if_pos rfl, e1]
    have := hc i hi
    by_cases h : (xs[i] == a) = true
    · have := this h
      rw [if_pos h]
      omega
    · rw [if_neg h]
      omega
  · rw [if_neg hij, e1, e2]
    have h1 := hc i hi
    have h2 := hc j hj
    by_cases ha : (xs[i] == a) = true <;> by_cases hb : (xs[j] == a) = true
    · have := h1 ha
      rw [if_pos ha, if_pos hb]
      omega
    · have := h1 ha
      rw [if_pos ha, if_neg hb]
      omega
    · have := h2 hb
      rw [if_neg ha, if_pos hb]
      omega
    · rw [if_neg ha, if_neg hb]
      omega

variable (lt : α → α → Bool)

/-- An order by which a heap is kept. -/
structure Ord : Prop where
  asym : ∀ a b, lt a b = true → lt b a = false
  trans : ∀ a b c, lt b a = false → lt c b = false → lt c a = false

/-- The parent of a place. -/
def par (j : Nat) : Nat := (j - 1) / 2

/-- Going up from a place. -/
def up (xs : List α) (j : Nat) : List α :=
  if _h : par j = j ∨ lt (at' xs j) (at' xs (par j)) = false then xs else up (swap xs (par j) j) (par j)
termination_by j
decreasing_by
  have : par j ≠ j := fun hh => _h (Or.inl hh)
  unfold par at *
  omega

/-- The lesser child. -/
def kid (xs : List α) (i n : Nat) : Nat := if 2 * i + 2 < n ∧ lt (at' xs (2 * i + 2)) (at' xs (2 * i + 1)) = true then 2 * i + 2 else 2 * i + 1

theorem kid_range (xs : List α) (i n : Nat) (h : 2 * i + 1 < n) : i < kid lt xs i n ∧ kid lt xs i n < n ∧ (kid lt xs i n = 2 * i + 1 ∨ kid lt xs i n = 2 * i + 2) := by
  unfold kid
  split <;> omega

/-- Going down from a place, among the first n: where it ends, and the row. -/
def down (xs : List α) (i n : Nat) : List α × Nat :=
  if _h : n ≤ 2 * i + 1 ∨ lt (at' xs (kid lt xs i n)) (at' xs i) = false then (xs, i) else down (swap xs i (kid lt xs i n)) (kid lt xs i n) n
termination_by n - i
decreasing_by
  have := kid_range lt xs i n (by omega)
  omega

/-- A heap: no element is less than its parent. -/
def Hp (xs : List α) (n : Nat) : Prop := ∀ k, 0 < k → k < n → lt (at' xs k) (at' xs (par k)) = false

variable {lt}

theorem Hp.least (O : Ord lt) {xs : List α} {n : Nat} (h : Hp lt xs n) (k : Nat) : k < n → lt (at' xs k) (at' xs 0) = false := by
  induction k using Nat.strongRecOn with
  | _ k ih =>
    intro hk
    by_cases h0 : k = 0
    · subst h0
      cases he : lt (at' xs 0) (at' xs 0) with
      | false => rfl
      | true => have := O.asym _ _ he; rw [he] at this; exact this
    · have h1 := h k (by omega) hk
      have hp : par k < k := by unfold par; omega
      exact O.trans _ _ _ (ih (par k) hp (by omega)) h1

/-- A heap but for the place that goes up. -/
structure UpI (lt : α → α → Bool) (xs : List α) (j : Nat) : Prop where
  a : ∀ k, 0 < k → k < xs.length → k ≠ j → lt (at' xs k) (at' xs (par k)) = false
  b : ∀ k, 0 < k → k < xs.length → par k = j → 0 < j → lt (at' xs k) (at' xs (par j)) = false

theorem UpI.step (O : Ord lt) {xs : List α} {j : Nat} (h : UpI lt xs j) (hj : j < xs.length) (hp : par j ≠ j) (hl : lt (at' xs j) (at' xs (par j)) = true) : UpI lt (swap xs (par j) j) (par j) := by
  have hpj : par j < j := by unfold par at *; omega
  have hi : par j < xs.length := by omega
  refine ⟨fun k h0 hk hne => ?_, fun k h0 hk hpk hi0 => ?_⟩
  · rw [swap_len] at hk
    rw [at_swap hi hj, at_swap hi hj]
    by_cases hkj : j = k
    · subst hkj
      rw [if_pos rfl, if_neg (by omega), if_pos rfl]
      exact O.asym _ _ hl
    · rw [if_neg hkj, if_neg (by omega)]
      by_cases h1 : j = par k
      · rw [if_pos h1]
        exact h.b k h0 hk h1.symm (by omega)
      · rw [if_neg h1]
        by_cases h2 : par j = par k
        · rw [if_pos h2]
          have := h.a k h0 hk (by omega)
          rw [← h2] at this
          exact O.trans _ _ _ (O.asym _ _ hl) this
        · rw [if_neg h2]
          exact h.a k h0 hk (by omega)
  · rw [swap_len] at hk
    have hpp : par (par j) < par j := by unfold par at *; omega
    rw [at_swap hi hj, at_swap hi hj, if_neg (show ¬ j = par (par j) by omega), if_neg (show ¬ par j = par (par j) by omega)]
    have hia := h.a (par j) hi0 hi (by omega)
    by_cases hkj : j = k
    · subst hkj
      rw [if_pos rfl]
      exact hia
    · have hk2 : par k < k := by unfold par; omega
      rw [if_neg hkj, if_neg (by omega)]
      have := h.a k h0 hk (by omega)
      rw [hpk] at this
      exact O.trans _ _ _ hia this

theorem up_heap (O : Ord lt) (j : Nat) : ∀ xs : List α, j < xs.length → UpI lt xs j → (up lt xs j).Perm xs ∧ Hp lt (up lt xs j) xs.length := by
  induction j using Nat.strongRecOn with
  | _ j ih =>
    intro xs hj h
    rw [up]
    split
    · rename_i hc
      refine ⟨List.Perm.refl _, fun k h0 hk => ?_⟩
      by_cases hkj : k = j
      · subst hkj
        rcases hc with hc | hc
        · exfalso
          unfold par at hc
          omega
        · exact hc
      · exact h.a k h0 hk hkj
    · rename_i hc
      have hp : par j ≠ j := fun hh => hc (Or.inl hh)
      have hl : lt (at' xs j) (at' xs (par j)) = true := by
        cases he : lt (at' xs j) (at' xs (par j)) with
        | true => rfl
        | false => exact absurd (Or.inr he) hc
      have hpj : par j < j := by unfold par at *; omega
      have := ih (par j) hpj (swap xs (par j) j) (by rw [swap_len]; omega) (h.step O hj hp hl)
      rw [swap_len] at this
      exact ⟨this.1.trans (swap_perm _ _ _ (by omega) hj), this.2⟩

/-- A row whose last element was just put there goes up. -/
theorem push_heap (O : Ord lt) {xs : List α} {x : α} (h : Hp lt xs xs.length) : (up lt (xs ++ [x]) xs.length).Perm (xs ++ [x]) ∧ Hp lt (up lt (xs ++ [x]) xs.length) (xs.length + 1) := by
  have := up_heap O xs.length (xs ++ [x]) (by simp) ⟨fun k h0 hk hne => by
    have hk2 : k < xs.length := by simp at hk; omega
    rw [at_append hk2, at_append (show par k < xs.length by unfold par; omega)]
    exact h k h0 hk2, fun k h0 hk hp hj => by
    simp at hk
    exfalso
    unfold par at hp
    omega⟩
  simp only [List.length_append, List.length_cons, List.length_nil, Nat.zero_add] at this
  exact this

/-- A heap but for the place that goes down. -/
structure DnI (lt : α → α → Bool) (xs : List α) (i n : Nat) : Prop where
  a : ∀ k, 0 < k → k < n → par k ≠ i → lt (at' xs k) (at' xs (par k)) = false
  b : ∀ k, 0 < k → k < n → par k = i → 0 < i → lt (at' xs k) (at' xs (par i)) = false

theorem kid_least (O : Ord lt) {xs : List α} {i n k : Nat} (h0 : 0 < k) (hk : k < n) (hp : par k = i) : lt (at' xs k) (at' xs (kid lt xs i n)) = false := by
  have hr : ∀ a : α, lt a a = false := by
    intro a
    cases he : lt a a with
    | false => rfl
    | true => have := O.asym _ _ he; rw [he] at this; exact this
  have hk2 : k = 2 * i + 1 ∨ k = 2 * i + 2 := by unfold par at hp; omega
  unfold kid
  split
  · rename_i hc
    rcases hk2 with e | e <;> subst e
    · exact O.asym _ _ hc.2
    · exact hr _
  · rename_i hc
    rcases hk2 with e | e <;> subst e
    · exact hr _
    · cases he : lt (at' xs (2 * i + 2)) (at' xs (2 * i + 1)) with
      | false => rfl
      | true => exact absurd ⟨hk, he⟩ hc

theorem DnI.step (O : Ord lt) {xs : List α} {i n : Nat} (h : DnI lt xs i n) (hn : n ≤ xs.length) (hc : 2 * i + 1 < n) (hl : lt (at' xs (kid lt xs i n)) (at' xs i) = true) : DnI lt (swap xs i (kid lt xs i n)) (kid lt xs i n) n := by
  obtain ⟨r1, r2, r3⟩ := kid_range lt xs i n hc
  generalize hj : kid lt xs i n = j at *
  have hpj : par j = i := by unfold par; omega
  have hi : i < xs.length := by omega
  have hjl : j < xs.length := by omega
  refine ⟨fun k h0 hk hne => ?_, fun k h0 hk hpk hj0 => ?_⟩
  · rw [at_swap hi hjl, at_swap hi hjl, if_neg (show ¬ j = par k from fun e => hne e.symm)]
    by_cases h1 : j = k
    · subst h1
      rw [if_pos rfl, hpj, if_pos rfl]
      exact O.asym _ _ hl
    · rw [if_neg h1]
      by_cases h2 : i = par k
      · have hik : i ≠ k := by have : par k < k := by unfold par; omega
                               omega
        rw [if_neg hik, if_pos h2]
        have := kid_least (lt := lt) (xs := xs) O h0 hk h2.symm
        rw [← h2, hj] at *
        exact this
      · rw [if_neg h2]
        by_cases h3 : i = k
        · subst h3
          rw [if_pos rfl]
          exact h.b j (by omega) r2 hpj h0
        · rw [if_neg h3]
          exact h.a k h0 hk (fun e => h2 e.symm)
  · have hkj : j < k := by unfold par at hpk; omega
    rw [at_swap hi hjl, at_swap hi hjl, if_neg (show ¬ j = k by omega), if_neg (show ¬ i = k by omega), hpj, if_neg (show ¬ j = i by omega), if_pos rfl]
    have := h.a k h0 hk (by omega)
    rw [hpk] at this
    exact this

theorem down_heap (O : Ord lt) (m : Nat) : ∀ (xs : List α) (i n : Nat), n - i = m → n ≤ xs.length → DnI lt xs i n → (down lt xs i n).1.Perm xs ∧ Hp lt (down lt xs i n).1 n ∧ (∀ k, n ≤ k → at' (down lt xs i n).1 k = at' xs k) := by
  induction m using Nat.strongRecOn with
  | _ m ih =>
    intro xs i n hm hn h
    rw [down]
    split
    · rename_i hc
      refine ⟨List.Perm.refl _, fun k h0 hk => ?_, fun k _ => rfl⟩
      by_cases hki : par k = i
      · rcases hc with hc | hc
        · exfalso
          unfold par at hki
          omega
        · have := kid_least (lt := lt) (xs := xs) O h0 hk hki
          simp only at this ⊢
          rw [hki]
          exact O.trans _ _ _ hc this
      · exact h.a k h0 hk hki
    · rename_i hc
      have hc1 : 2 * i + 1 < n := by omega
      have hl : lt (at' xs (kid lt xs i n)) (at' xs i) = true := by
        cases he : lt (at' xs (kid lt xs i n)) (at' xs i) with
        | true => rfl
        | false => exact absurd (Or.inr he) hc
      obtain ⟨r1, r2, r3⟩ := kid_range lt xs i n hc1
      have := ih (n - kid lt xs i n) (by omega) (swap xs i (kid lt xs i n)) (kid lt xs i n) n rfl (by rw [swap_len]; exact hn) (h.step O hn hc1 hl)
      refine ⟨this.1.trans (swap_perm _ _ _ (by omega) (by omega)), this.2.1, fun k hk => ?_⟩
      rw [this.2.2 k hk, at_swap (by omega) (by omega), if_neg (by omega), if_neg (by omega)]

theorem down_len (m : Nat) : ∀ (xs : List α) (i n : Nat), n - i = m → (down lt xs i n).1.length = xs.length := by
  induction m using Nat.strongRecOn with
  | _ m ih =>
    intro xs i n hm
    rw [down]
    split
    · rfl
    · rename_i hc
      have hc1 : 2 * i + 1 < n := by omega
      obtain ⟨r1, r2, r3⟩ := kid_range lt xs i n hc1
      rw [ih (n - kid lt xs i n) (by omega) _ _ n rfl, swap_len]

theorem down_perm (m : Nat) : ∀ (xs : List α) (i n : Nat), n - i = m → n ≤ xs.length → (down lt xs i n).1.Perm xs := by
  induction m using Nat.strongRecOn with
  | _ m ih =>
    intro xs i n hm hn
    rw [down]
    split
    · exact List.Perm.refl _
    · rename_i hc
      have hc1 : 2 * i + 1 < n := by omega
      obtain ⟨r1, r2, r3⟩ := kid_range lt xs i n hc1
      exact (ih (n - kid lt xs i n) (by omega) _ _ n rfl (by rw [swap_len]; exact hn)).trans (swap_perm _ _ _ (by omega) (by omega))
theorem up_perm (j : Nat) : ∀ xs : List α, j < xs.length → (up lt xs j).Perm xs := by
  induction j using Nat.strongRecOn with
  | _ j ih =>
    intro xs hj
    rw [up]
    split
    · exact List.Perm.refl _
    · rename_i hc
      have hp : par j ≠ j := fun hh => hc (Or.inl hh)
      have hpj : par j < j := by unfold par at *; omega
      exact (ih (par j) hpj _ (by rw [swap_len]; omega)).trans (swap_perm _ _ _ (by omega) hj)

/-- A heap whose first element was changed is mended by going down. -/
theorem fix_heap (O : Ord lt) {xs : List α} {x : α} (h : Hp lt xs xs.length) (h0 : 0 < xs.length) : (down lt (xs.set 0 x) 0 xs.length).1.Perm (xs.set 0 x) ∧ Hp lt (down lt (xs.set 0 x) 0 xs.length).1 xs.length := by
  have := down_heap O _ (xs.set 0 x) 0 xs.length rfl (by simp) ⟨fun k hk hn hp => by
    rw [at_set h0, at_set h0, if_neg (by omega), if_neg (by omega)]
    exact h k hk hn, fun k _ _ _ h => absurd h (by omega)⟩
  exact ⟨this.1, this.2.1⟩

/-- What is left when the first element is taken away: the last one is put first and goes down. -/
def popH (lt : α → α → Bool) (xs : List α) : List α := (down lt (swap xs 0 (xs.length - 1)) 0 (xs.length - 1)).1.dropLast

theorem pop_heap (y : α) (O : Ord lt) {x : α} {xs : List α} (h : Hp lt (x :: xs) (xs.length + 1)) : (popH lt (y :: xs)).Perm xs ∧ Hp lt (popH lt (y :: xs)) xs.length ∧ (popH lt (y :: xs)).length = xs.length := by
  have hyx : ∀ k, 0 < k → at' (y :: xs) k = at' (x :: xs) k := fun k hk => by
    cases k with
    | zero => omega
    | succ k => rfl
  have hlen : ((down lt (swap (y :: xs) 0 xs.length) 0 xs.length).1).length = xs.length + 1 := by rw [down_len _ _ _ _ rfl, swap_len]; rfl
  have D := down_heap O _ (swap (y :: xs) 0 xs.length) 0 xs.length rfl (by rw [swap_len]; simp) ⟨fun k hk hn hp => by
    rw [at_swap (by simp) (by simp), at_swap (by simp) (by simp), if_neg (by omega), if_neg (by omega), if_neg (show ¬ xs.length = par k by unfold par; omega), if_neg (by omega), hyx k hk, hyx (par k) (by omega)]
    exact h k hk (by omega), fun k _ _ _ h => absurd h (by omega)⟩
  unfold popH
  simp only [List.length_cons, Nat.add_sub_cancel]
  generalize hd : (down lt (swap (y :: xs) 0 xs.length) 0 xs.length).1 = ys at *
  obtain ⟨d1, d2, d3⟩ := D
  have hl : at' ys xs.length = y := by
    rw [d3 _ (Nat.le_refl _), at_swap (by simp) (by simp), if_pos rfl]
    rfl
  have hys : ys = ys.dropLast ++ [y] := by
    have hne : ys ≠ [] := by intro e; rw [e] at hlen; simp at hlen
    have := (List.dropLast_concat_getLast hne).symm
    rw [List.getLast_eq_getElem] at this
    have e2 := at_get (xs := ys) (k := ys.length - 1) (by omega)
    rw [← e2, hlen, Nat.add_sub_cancel, hl] at this
    exact this
  refine ⟨?_, fun k h0 hk => ?_, by simp [hlen]⟩
  · have p1 : (ys.dropLast ++ [y]).Perm (y :: xs) := by
      rw [← hys]
      exact d1.trans (swap_perm _ _ _ (by simp) (by simp))
    have p2 : (y :: ys.dropLast).Perm (ys.dropLast ++ [y]) := (List.perm_append_singleton y ys.dropLast).symm
    exact (p2.trans p1).cons_inv
  · rw [at_dropLast (by omega), at_dropLast (by unfold par; omega)]
    exact d2 k h0 hk

end
end Go.Proofs.Ytilgkfpicdmkkaa.M
end

section
/- Merging lists: what comes next is the least front, of like ones that of the first list; the heap of rests tells just that. Nothing of the program is used here. -/
namespace Go.Proofs.Ytilgkfpicdmkkaa.M

/-- What is left of the list at a place. -/
structure R (T : Type) where
  p : Nat
  l : List T
instance {T : Type} : Inhabited (R T) := ⟨⟨0, []⟩⟩

section
variable {T : Type} [Inhabited T]

/-- The front of a rest. -/
def R.hd (r : R T) : T := r.l.headD default

variable (cm : T → T → Int)

/-- By what a heap of rests is kept. -/
def ltR (a b : R T) : Bool := decide ((if cm a.hd b.hd ≠ 0 then cm a.hd b.hd else (if a.p < b.p then -1 else if b.p < a.p then 1 else 0)) < 0)

/-- A right way to compare. -/
structure Cm : Prop where
  anti : ∀ a b, cm b a = - cm a b
  trans : ∀ a b c, cm a b ≤ 0 → cm b c ≤ 0 → cm a c ≤ 0

theorem ltR_true {a b : R T} : ltR cm a b = true ↔ cm a.hd b.hd < 0 ∨ (cm a.hd b.hd = 0 ∧ a.p < b.p) := by
  unfold ltR
  rw [decide_eq_true_iff]
  split
  · omega
  · split
    · omega
    · split <;> omega
theorem ltR_false {a b : R T} : ltR cm a b = false ↔ 0 < cm a.hd b.hd ∨ (cm a.hd b.hd = 0 ∧ b.p ≤ a.p) := by
  rw [← Bool.not_eq_true, ltR_true]
  omega

variable {cm}
omit [Inhabited T] in
theorem Cm.strict (C : Cm cm) {a b c : T} (h1 : cm a b < 0) (h2 : cm b c ≤ 0) : cm a c < 0 := by
  have h3 := C.trans a b c (by omega) h2
  by_cases h : cm a c = 0
  · have e1 := C.anti a c
    have h4 := C.trans b c a h2 (by omega)
    have e2 := C.anti a b
    omega
  · omega
omit [Inhabited T] in
theorem Cm.strict' (C : Cm cm) {a b c : T} (h1 : cm a b ≤ 0) (h2 : cm b c < 0) : cm a c < 0 := by
  have h3 := C.trans a b c h1 (by omega)
  by_cases h : cm a c = 0
  · have e1 := C.anti a c
    have h4 := C.trans c a b (by omega) h1
    have e2 := C.anti b c
    omega
  · omega
theorem Cm.ord (C : Cm cm) : Ord (ltR cm) := by
  refine ⟨fun a b h => ?_, fun a b c h1 h2 => ?_⟩
  · rw [ltR_true] at h
    rw [ltR_false]
    have := C.anti a.hd b.hd
    omega
  · rw [ltR_false] at *
    have e1 := C.anti a.hd b.hd
    have e2 := C.anti b.hd c.hd
    have e3 := C.anti a.hd c.hd
    have h3 := C.trans a.hd b.hd c.hd (by omega) (by omega)
    by_cases h : cm c.hd a.hd = 0
    · refine Or.inr ⟨h, ?_⟩
      have n1 : ¬ cm a.hd b.hd < 0 := fun hh => by
        have := C.strict hh (show cm b.hd c.hd ≤ 0 by omega)
        omega
      have n2 : ¬ cm b.hd c.hd < 0 := fun hh => by
        have := C.strict' (show cm a.hd b.hd ≤ 0 by omega) hh
        omega
      omega
    · omega

/-- The rests of lists from a place on: those that are not empty. -/
def rs : Nat → List (List T) → List (R T)
  | _, [] => []
  | i, l :: F => if l.isEmpty then rs (i + 1) F else ⟨i, l⟩ :: rs (i + 1) F

omit [Inhabited T] in
theorem rs_append (i : Nat) (A B : List (List T)) : rs i (A ++ B) = rs i A ++ rs (i + A.length) B := by
  induction A generalizing i with
  | nil => simp [rs]
  | cons l A ih =>
    simp only [List.cons_append, rs, List.length_cons]
    rw [ih, show i + 1 + A.length = i + (A.length + 1) by omega]
    split <;> rfl
omit [Inhabited T] in
theorem rs_mem {F : List (List T)} {i : Nat} {r : R T} (h : r ∈ rs i F) : i ≤ r.p ∧ F[r.p - i]? = some r.l ∧ r.l ≠ [] := by
  induction F generalizing i with
  | nil => simp [rs] at h
  | cons l F ih =>
    simp only [rs] at h
    split at h
    · have := ih h
      refine ⟨by omega, ?_, this.2.2⟩
      rw [show r.p - i = (r.p - (i + 1)) + 1 by omega]
      simpa using this.2.1
    · rename_i hne
      rcases List.mem_cons.1 h with e | h
      · subst e
        exact ⟨Nat.le_refl _, by simp, fun e => hne (by simp only at e; rw [e]; rfl)⟩
      · have := ih h
        refine ⟨by omega, ?_, this.2.2⟩
        rw [show r.p - i = (r.p - (i + 1)) + 1 by omega]
        simpa using this.2.1
omit [Inhabited T] in
theorem rs_inj {F : List (List T)} {r s : R T} (h1 : r ∈ rs 0 F) (h2 : s ∈ rs 0 F) (h : r.p = s.p) : r = s := by
  have a := (rs_mem h1).2.1
  have b := (rs_mem h2).2.1
  rw [← h, a] at b
  obtain ⟨p, l⟩ := r
  obtain ⟨q, m⟩ := s
  simp at h b
  rw [h, b]

/-- How many there are in all. -/
def tot (F : List (List T)) : Nat := (F.map List.length).sum

/-- The least of rests. -/
def pick (cm : T → T → Int) : Option (R T) → List (R T) → Option (R T)
  | a, [] => a
  | none, r :: l => pick cm (some r) l
  | some a, r :: l => pick cm (some (if ltR cm r a then r else a)) l
/-- What comes next. -/
def nxt (cm : T → T → Int) (F : List (List T)) : Option (R T) := pick cm none (rs 0 F)

theorem pick_some (C : Cm cm) (l : List (R T)) : ∀ a, ∃ m, pick cm (some a) l = some m ∧ (m = a ∨ m ∈ l) ∧ ltR cm a m = false ∧ ∀ r ∈ l, ltR cm r m = false := by
  have irr : ∀ a, ltR cm a a = false := fun a => by
    cases he : ltR cm a a with
    | false => rfl
    | true => have := C.ord.asym _ _ he; rw [he] at this; exact this
  induction l with
  | nil => exact fun a => ⟨a, rfl, Or.inl rfl, irr a, fun r h => by simp at h⟩
  | cons r l ih =>
    intro a
    simp only [pick]
    obtain ⟨m, h1, h2, h3, h4⟩ := ih (if ltR cm r a then r else a)
    refine ⟨m, h1, ?_, ?_, ?_⟩
    · rcases h2 with h2 | h2
      · rw [h2]
        split
        · exact Or.inr (List.mem_cons_self ..)
        · exact Or.inl rfl
      · exact Or.inr (List.mem_cons_of_mem _ h2)
    · split at h3
      · rename_i hh
        exact C.ord.trans _ _ _ h3 (C.ord.asym _ _ hh)
      · exact h3
    · intro s hs
      rcases List.mem_cons.1 hs with e | hs
      · subst e
        split at h3
        · exact h3
        · rename_i hh
          exact C.ord.trans _ _ _ h3 (by simpa using hh)
      · exact h4 s hs
theorem nxt_none (C : Cm cm) {F : List (List T)} : nxt cm F = none ↔ rs 0 F = [] := by
  unfold nxt
  cases h : rs 0 F with
  | nil => simp [pick]
  | cons r l =>
    simp only [pick]
    obtain ⟨m, h1, _⟩ := pick_some C l r
    rw [h1]
    simp
theorem nxt_some (C : Cm cm) {F : List (List T)} {m : R T} (h : nxt cm F = some m) : m ∈ rs 0 F ∧ ∀ r ∈ rs 0 F, ltR cm r m = false := by
  unfold nxt at h
  cases h0 : rs 0 F with
  | nil => rw [h0] at h; simp [pick] at h
  | cons r l =>
    rw [h0] at h
    simp only [pick] at h
    obtain ⟨m', h1, h2, h3, h4⟩ := pick_some C l r
    rw [h1] at h
    have e : m' = m := by simpa using h
    subst e
    refine ⟨?_, fun s hs => ?_⟩
    · rcases h2 with h2 | h2
      · rw [h2]
        exact List.mem_cons_self ..
      · exact List.mem_cons_of_mem _ h2
    · rcases List.mem_cons.1 hs with e | hs
      · subst e
        exact h3
      · exact h4 s hs
/-- What is least is what comes next. -/
theorem nxt_eq (C : Cm cm) {F : List (List T)} {x : R T} (h : x ∈ rs 0 F) (hm : ∀ r ∈ rs 0 F, ltR cm r x = false) : nxt cm F = some x := by
  cases hn : nxt cm F with
  | none =>
    rw [nxt_none C] at hn
    rw [hn] at h
    simp at h
  | some m =>
    obtain ⟨h1, h2⟩ := nxt_some C hn
    have a := hm m h1
    have b := h2 x h
    rw [ltR_false] at a b
    have e := C.anti m.hd x.hd
    rw [rs_inj h1 h (by omega)]

/-- All of them, in order. -/
def M (cm : T → T → Int) : Nat → List (List T) → List T
  | 0, _ => []
  | n + 1, F => match nxt cm F with | none => [] | some r => r.hd :: M cm n (F.set r.p r.l.tail)
/-- The lists as one. -/
def merged (cm : T → T → Int) (F : List (List T)) : List T := M cm (tot F) F

omit [Inhabited T] in
theorem tot_append (A B : List (List T)) : tot (A ++ B) = tot A + tot B := by simp [tot]
omit [Inhabited T] in
theorem tot_cons (l : List T) (B : List (List T)) : tot (l :: B) = l.length + tot B := by simp [tot]

omit [Inhabited T] in
theorem split_at {F : List (List T)} {r : R T} (h : r ∈ rs 0 F) : ∃ A B, F = A ++ r.l :: B ∧ A.length = r.p ∧ r.l ≠ [] ∧ ∀ t, F.set r.p t = A ++ t :: B := by
  obtain ⟨_, h1, h2⟩ := rs_mem h
  rw [Nat.sub_zero] at h1
  have hlt : r.p < F.length := (List.getElem?_eq_some_iff.1 h1).1
  have he : F[r.p] = r.l := (List.getElem?_eq_some_iff.1 h1).2
  have hs : F = F.take r.p ++ r.l :: F.drop (r.p + 1) := by
    rw [← he]
    simp
  have hl : (F.take r.p).length = r.p := by simp; omega
  refine ⟨F.take r.p, F.drop (r.p + 1), hs, hl, h2, fun t => ?_⟩
  rw [List.set_eq_take_append_cons_drop, if_pos hlt]

omit [Inhabited T] in
theorem tot_step {F : List (List T)} {r : R T} (h : r ∈ rs 0 F) : tot F = tot (F.set r.p r.l.tail) + 1 := by
  obtain ⟨A, B, h1, h2, h3, h4⟩ := split_at h
  rw [h4, tot_append, tot_cons]
  conv => lhs; rw [h1, tot_append, tot_cons]
  have : 0 < r.l.length := List.length_pos_iff.2 h3
  simp
  omega
theorem merged_none (C : Cm cm) {F : List (List T)} (h : rs 0 F = []) : merged cm F = [] := by
  unfold merged
  cases tot F with
  | zero => rfl
  | succ n =>
    simp only [M]
    rw [(nxt_none C).2 h]
theorem merged_some (C : Cm cm) {F : List (List T)} {x : R T} (h : x ∈ rs 0 F) (hm : ∀ r ∈ rs 0 F, ltR cm r x = false) : merged cm F = x.hd :: merged cm (F.set x.p x.l.tail) := by
  unfold merged
  rw [tot_step h]
  simp only [M]
  rw [nxt_eq C h hm]

/-- A heap of rests is that of lists. -/
structure HR (cm : T → T → Int) (hs : List (R T)) (F : List (List T)) : Prop where
  perm : hs.Perm (rs 0 F)
  heap : Hp (ltR cm) hs hs.length

theorem HR.nil : HR cm [] [] := ⟨by simp [rs], fun k _ h => by simp at h⟩
theorem HR.push (C : Cm cm) {hs : List (R T)} {F : List (List T)} (h : HR cm hs F) {l : List T} (hl : l ≠ []) : HR cm (up (ltR cm) (hs ++ [⟨F.length, l⟩]) hs.length) (F ++ [l]) := by
  obtain ⟨p1, p2⟩ := push_heap (x := (⟨F.length, l⟩ : R T)) C.ord h.heap
  have he : l.isEmpty = false := by cases l with
    | nil => exact absurd rfl hl
    | cons => rfl
  refine ⟨?_, ?_⟩
  · rw [rs_append]
    simp only [rs, he, Nat.zero_add]
    exact p1.trans (h.perm.append_right _)
  · rw [p1.length_eq]
    simpa using p2
theorem HR.skip {hs : List (R T)} {F : List (List T)} (h : HR cm hs F) : HR cm hs (F ++ [[]]) := by
  refine ⟨?_, h.heap⟩
  rw [rs_append]
  simpa [rs] using h.perm
theorem HR.empty {F : List (List T)} (h : HR cm [] F) : rs 0 F = [] := List.nil_perm.1 h.perm
theorem HR.first (C : Cm cm) {x : R T} {xs : List (R T)} {F : List (List T)} (h : HR cm (x :: xs) F) : x ∈ rs 0 F ∧ ∀ r ∈ rs 0 F, ltR cm r x = false := by
  refine ⟨h.perm.mem_iff.1 (List.mem_cons_self ..), fun r hr => ?_⟩
  have hr2 := h.perm.mem_iff.2 hr
  obtain ⟨k, hk, e⟩ := List.mem_iff_getElem.1 hr2
  have := h.heap.least C.ord k hk
  rw [at_get hk, e] at this
  exact this
omit [Inhabited T] in
theorem rs_step {F : List (List T)} {r : R T} (h : r ∈ rs 0 F) (t : List T) : ∃ L, (rs 0 F).Perm (r :: L) ∧ (rs 0 (F.set r.p t)).Perm (if t.isEmpty then L else ⟨r.p, t⟩ :: L) := by
  obtain ⟨A, B, h1, h2, h3, h4⟩ := split_at h
  refine ⟨rs 0 A ++ rs (r.p + 1) B, ?_, ?_⟩
  · conv => lhs; rw [h1]
    have he : r.l.isEmpty = false := by cases hl : r.l with
      | nil => exact absurd hl h3
      | cons => rfl
    rw [rs_append]
    simp only [rs, he, Nat.zero_add, h2]
    exact List.perm_middle
  · rw [h4, rs_append]
    simp only [rs, Nat.zero_add, h2]
    split
    · exact List.Perm.refl _
    · exact List.perm_middle
theorem HR.fix (C : Cm cm) {x : R T} {xs : List (R T)} {F : List (List T)} (h : HR cm (x :: xs) F) (ht : x.l.tail ≠ []) : HR cm (down (ltR cm) ((⟨x.p, x.l.tail⟩ : R T) :: xs) 0 (xs.length + 1)).1 (F.set x.p x.l.tail) := by
  have f := fix_heap (x := (⟨x.p, x.l.tail⟩ : R T)) C.ord h.heap (by simp)
  simp only [List.set_cons_zero, List.length_cons] at f
  obtain ⟨L, p1, p2⟩ := rs_step (h.first C).1 x.l.tail
  have he : x.l.tail.isEmpty = false := by cases hl : x.l.tail with
    | nil => exact absurd hl ht
    | cons => rfl
  rw [he] at p2
  refine ⟨f.1.trans (((h.perm.trans p1).cons_inv.cons _).trans p2.symm), ?_⟩
  rw [f.1.length_eq]
  exact f.2
theorem HR.pop (C : Cm cm) {x : R T} {xs : List (R T)} {F : List (List T)} (h : HR cm (x :: xs) F) (ht : x.l.tail = []) (y : R T) : HR cm (popH (ltR cm) (y :: xs)) (F.set x.p x.l.tail) := by
  have f := h.heap
  obtain ⟨L, p1, p2⟩ := rs_step (h.first C).1 x.l.tail
  rw [ht] at p2
  obtain ⟨g1, g2, g3⟩ := pop_heap y C.ord f
  rw [ht]
  exact ⟨g1.trans ((h.perm.trans p1).cons_inv.trans p2.symm), by rw [g3]; exact g2⟩
end
end Go.Proofs.Ytilgkfpicdmkkaa.M
end

section
/- Merging: what comes out has just what went in, in order; lists cut off behind so many make no difference to the first so many. Nothing of the program is used here. -/
namespace Go.Proofs.Ytilgkfpicdmkkaa.M
section
variable {T : Type} [Inhabited T] {cm : T → T → Int}

omit [Inhabited T] in
theorem rs_nil_flat {F : List (List T)} {i : Nat} (h : rs i F = []) : F.flatten = [] := by
  induction F generalizing i with
  | nil => rfl
  | cons l F ih =>
    simp only [rs] at h
    split at h
    · rename_i he
      have : l = [] := by simpa using he
      rw [this, List.flatten_cons, List.nil_append]
      exact ih h
    · simp at h
omit [Inhabited T] in
theorem rs_ne {F : List (List T)} (h : rs 0 F ≠ []) : 0 < tot F := by
  rcases Nat.eq_zero_or_pos (tot F) with h0 | h0
  · exfalso
    apply h
    have key : ∀ (F : List (List T)) (i : Nat), tot F = 0 → rs i F = [] := by
      intro F
      induction F with
      | nil => intro i _; rfl
      | cons l F ih =>
        intro i h1
        rw [tot_cons] at h1
        have : l = [] := List.eq_nil_of_length_eq_zero (by omega)
        simp only [rs, this, List.isEmpty_nil, if_true]
        exact ih _ (by omega)
    exact key F 0 h0
  · exact h0
/-- What comes next, and what is left. -/
theorem merged_cases (C : Cm cm) (F : List (List T)) : (rs 0 F = [] ∧ merged cm F = []) ∨ ∃ x, x ∈ rs 0 F ∧ (∀ r ∈ rs 0 F, ltR cm r x = false) ∧ merged cm F = x.hd :: merged cm (F.set x.p x.l.tail) ∧ tot F = tot (F.set x.p x.l.tail) + 1 := by
  by_cases h : rs 0 F = []
  · exact Or.inl ⟨h, merged_none C h⟩
  · right
    cases hn : nxt cm F with
    | none => exact absurd ((nxt_none C).1 hn) h
    | some x =>
      obtain ⟨h1, h2⟩ := nxt_some C hn
      exact ⟨x, h1, h2, merged_some C h1 h2, tot_step h1⟩
theorem hd_tail {r : R T} (h : r.l ≠ []) : r.l = r.hd :: r.l.tail := by
  unfold R.hd
  cases hl : r.l with
  | nil => exact absurd hl h
  | cons a l => rfl
theorem merged_perm_n (C : Cm cm) : ∀ (n : Nat) (F : List (List T)), tot F = n → (merged cm F).Perm F.flatten
  | 0, F, h => by
    rcases merged_cases C F with ⟨h1, h2⟩ | ⟨x, _, _, _, h4⟩
    · rw [h2, rs_nil_flat h1]
    · omega
  | n + 1, F, h => by
    rcases merged_cases C F with ⟨h1, h2⟩ | ⟨x, h1, _, h3, h4⟩
    · rw [h2, rs_nil_flat h1]
    · have ih := merged_perm_n C n (F.set x.p x.l.tail) (by omega)
      obtain ⟨A, B, e1, _, e3, e4⟩ := split_at h1
      rw [e4] at ih h3
      rw [h3]
      have e5 : F.flatten = A.flatten ++ (x.hd :: x.l.tail) ++ B.flatten := by
        conv => lhs; rw [e1]
        rw [← hd_tail e3]
        simp
      rw [e5]
      refine (ih.cons x.hd).trans ?_
      simp only [List.flatten_append, List.flatten_cons]
      rw [List.append_assoc]
      exact List.perm_middle.symm
theorem merged_perm (C : Cm cm) (F : List (List T)) : (merged cm F).Perm F.flatten := merged_perm_n C _ F rfl
theorem merged_sorted_n (C : Cm cm) : ∀ (n : Nat) (F : List (List T)), tot F = n → (∀ l ∈ F, l.Pairwise (fun a b => cm a b ≤ 0)) → (merged cm F).Pairwise (fun a b => cm a b ≤ 0)
  | 0, F, h, _ => by
    rcases merged_cases C F with ⟨_, h2⟩ | ⟨x, _, _, _, h4⟩
    · rw [h2]; exact List.Pairwise.nil
    · omega
  | n + 1, F, h, hs => by
    rcases merged_cases C F with ⟨_, h2⟩ | ⟨x, h1, hm, h3, h4⟩
    · rw [h2]; exact List.Pairwise.nil
    · obtain ⟨A, B, e1, _, e3, e4⟩ := split_at h1
      have hx : x.l ∈ F := by rw [e1]; simp
      have hsx := hs x.l hx
      rw [hd_tail e3] at hsx
      obtain ⟨hsx1, hsx2⟩ := List.pairwise_cons.1 hsx
      have ih := merged_sorted_n C n (F.set x.p x.l.tail) (by omega) (fun l hl => by
        rw [e4] at hl
        rcases List.mem_append.1 hl with hl | hl
        · exact hs l (by rw [e1]; simp [hl])
        · rcases List.mem_cons.1 hl with rfl | hl
          · exact hsx2
          · exact hs l (by rw [e1]; simp [hl]))
      rw [h3]
      refine List.pairwise_cons.2 ⟨fun y hy => ?_, ih⟩
      have hy2 := (merged_perm C _).subset hy
      rw [e4] at hy2
      obtain ⟨l, hl, hyl⟩ := List.mem_flatten.1 hy2
      have hcase : l = x.l.tail ∨ l ∈ F := by
        rcases List.mem_append.1 hl with hl | hl
        · exact Or.inr (by rw [e1]; simp [hl])
        · rcases List.mem_cons.1 hl with rfl | hl
          · exact Or.inl rfl
          · exact Or.inr (by rw [e1]; simp [hl])
      rcases hcase with rfl | hlF
      · exact hsx1 y hyl
      · have hne : l ≠ [] := List.ne_nil_of_mem hyl
        have hr : ∃ p, (⟨p, l⟩ : R T) ∈ rs 0 F := by
          have key : ∀ (F : List (List T)) (i : Nat), l ∈ F → ∃ p, (⟨p, l⟩ : R T) ∈ rs i F := by
            intro F
            induction F with
            | nil => intro i h; simp at h
            | cons a F ih =>
              intro i h
              simp only [rs]
              rcases List.mem_cons.1 h with rfl | h
              · have : l.isEmpty = false := by cases l with
                  | nil => exact absurd rfl hne
                  | cons => rfl
                rw [this]
                exact ⟨i, by simp⟩
              · obtain ⟨p, hp⟩ := ih (i + 1) h
                refine ⟨p, ?_⟩
                split
                · exact hp
                · exact List.mem_cons_of_mem _ hp
          exact key F 0 hlF
        obtain ⟨p, hp⟩ := hr
        have h5 := hm _ hp
        rw [ltR_false] at h5
        have h6 := C.anti x.hd (⟨p, l⟩ : R T).hd
        have h7 : cm x.hd (⟨p, l⟩ : R T).hd ≤ 0 := by omega
        have h8 : cm (⟨p, l⟩ : R T).hd y ≤ 0 := by
          have e9 := hd_tail (r := (⟨p, l⟩ : R T)) hne
          have hsl := hs l hlF
          have e10 : l = (⟨p, l⟩ : R T).hd :: l.tail := e9
          rw [e10] at hsl hyl
          rcases List.mem_cons.1 hyl with h | h
          · rw [h]
            have := C.anti (⟨p, l⟩ : R T).hd (⟨p, l⟩ : R T).hd
            omega
          · exact (List.pairwise_cons.1 hsl).1 y h
        exact C.trans _ _ _ h7 h8
theorem merged_sorted (C : Cm cm) (F : List (List T)) (h : ∀ l ∈ F, l.Pairwise (fun a b => cm a b ≤ 0)) : (merged cm F).Pairwise (fun a b => cm a b ≤ 0) := merged_sorted_n C _ F rfl h
/-- What has the same, in order, is it, where unlike ones compare unlike. -/
theorem merged_one (C : Cm cm) (F : List (List T)) (L : List T) (h : ∀ l ∈ F, l.Pairwise (fun a b => cm a b ≤ 0)) (hp : L.Perm F.flatten) (hs : L.Pairwise (fun a b => cm a b ≤ 0)) (hu : ∀ a ∈ L, ∀ b ∈ L, cm a b = 0 → a = b) : merged cm F = L := by
  refine List.Perm.eq_of_pairwise (le := fun a b => cm a b ≤ 0) (fun a b ha hb h1 h2 => ?_) (merged_sorted C F h) hs ((merged_perm C F).trans hp.symm)
  have ha2 := hp.symm.subset ((merged_perm C F).subset ha)
  have := C.anti a b
  exact hu a ha2 b hb (by omega)

omit [Inhabited T] in
theorem tail_take' (l : List T) (m : Nat) : (l.take (m + 1)).tail = l.tail.take m := by cases l <;> simp
/-- Lists that begin alike. -/
def Alk (m : Nat) (F F' : List (List T)) : Prop := F.length = F'.length ∧ ∀ (p : Nat) (l l' : List T), F[p]? = some l → F'[p]? = some l' → l.take m = l'.take m
omit [Inhabited T] in
theorem rs_iff {F : List (List T)} {r : R T} : r ∈ rs 0 F ↔ F[r.p]? = some r.l ∧ r.l ≠ [] := by
  constructor
  · intro h
    have := rs_mem h
    rw [Nat.sub_zero] at this
    exact this.2
  · rintro ⟨h1, h2⟩
    have key : ∀ (F : List (List T)) (i p : Nat) (l : List T), F[p]? = some l → l ≠ [] → (⟨i + p, l⟩ : R T) ∈ rs i F := by
      intro F
      induction F with
      | nil => intro i p l h _; simp at h
      | cons a F ih =>
        intro i p l h hne
        simp only [rs]
        cases p with
        | zero =>
          simp at h
          subst h
          have : a.isEmpty = false := by cases a with
            | nil => exact absurd rfl hne
            | cons => rfl
          rw [this]
          simp
        | succ p =>
          have h3 := ih (i + 1) p l (by simpa using h) hne
          rw [show i + (p + 1) = i + 1 + p by omega]
          split
          · exact h3
          · exact List.mem_cons_of_mem _ h3
    have := key F 0 r.p r.l h1 h2
    rw [Nat.zero_add] at this
    exact this
theorem take_alike (C : Cm cm) : ∀ (m : Nat) (F F' : List (List T)), Alk m F F' → (merged cm F).take m = (merged cm F').take m
  | 0, _, _, _ => by simp
  | m + 1, F, F', h => by
    have hh : ∀ (p : Nat) (l l' : List T), F[p]? = some l → F'[p]? = some l' → (l = [] ↔ l' = []) ∧ l.headD default = l'.headD default := fun p l l' h1 h2 => by
      have := h.2 p l l' h1 h2
      cases l with
      | nil => cases l' with
        | nil => exact ⟨Iff.rfl, rfl⟩
        | cons => simp at this
      | cons a l => cases l' with
        | nil => simp at this
        | cons b l' =>
          simp at this
          exact ⟨by simp, this.1⟩
    have other : ∀ {G G' : List (List T)}, G.length = G'.length → (∀ (p : Nat) (l l' : List T), G[p]? = some l → G'[p]? = some l' → (l = [] ↔ l' = []) ∧ l.headD default = l'.headD default) → ∀ r ∈ rs 0 G, ∃ l', (⟨r.p, l'⟩ : R T) ∈ rs 0 G' ∧ (⟨r.p, l'⟩ : R T).hd = r.hd := fun {G G'} hl hG r hr => by
      obtain ⟨h1, h2⟩ := rs_iff.1 hr
      have hlt := (List.getElem?_eq_some_iff.1 h1).1
      have h3 : G'[r.p]? = some (G'[r.p]'(by omega)) := List.getElem?_eq_getElem (by omega)
      obtain ⟨h4, h5⟩ := hG _ _ _ h1 h3
      exact ⟨_, rs_iff.2 ⟨h3, fun e => h2 (h4.2 e)⟩, h5.symm⟩
    rcases merged_cases C F with ⟨h1, h2⟩ | ⟨x, h1, hm, h3, _⟩
    · have h1' : rs 0 F' = [] := by
        cases hr : rs 0 F' with
        | nil => rfl
        | cons r L =>
          obtain ⟨l', h4, _⟩ := other (G := F') (G' := F) h.1.symm (fun p l l' a b => ⟨(hh p l' l b a).1.symm, (hh p l' l b a).2.symm⟩) r (by rw [hr]; simp)
          rw [h1] at h4
          simp at h4
      rw [h2, merged_none C h1']
    · obtain ⟨l', h4, h5⟩ := other h.1 hh x h1
      have hm' : ∀ r ∈ rs 0 F', ltR cm r ⟨x.p, l'⟩ = false := fun r hr => by
        obtain ⟨l2, h6, h7⟩ := other (G := F') (G' := F) h.1.symm (fun p l l' a b => ⟨(hh p l' l b a).1.symm, (hh p l' l b a).2.symm⟩) r hr
        have := hm _ h6
        rw [ltR_false] at this ⊢
        rw [h5, ← h7]
        exact this
      rw [h3, merged_some C h4 hm', h5]
      simp only [List.take_succ_cons]
      congr 1
      obtain ⟨g1, _⟩ := rs_iff.1 h1
      obtain ⟨g2, _⟩ := rs_iff.1 h4
      dsimp only at g2 ⊢
      apply take_alike C m
      refine ⟨by simp [h.1], fun p l l'' a b => ?_⟩
      rw [List.getElem?_set] at a b
      by_cases hp : x.p = p
      · subst hp
        have hlt := (List.getElem?_eq_some_iff.1 g1).1
        have hlt' := (List.getElem?_eq_some_iff.1 g2).1
        rw [if_pos rfl, if_pos hlt] at a
        rw [if_pos rfl, if_pos hlt'] at b
        simp only [Option.some.injEq] at a b
        subst a b
        have h8 := h.2 _ _ _ g1 g2
        have h9 := congrArg List.tail h8
        rw [tail_take', tail_take'] at h9
        exact h9
      · rw [if_neg hp] at a b
        have h8 := h.2 _ _ _ a b
        have h9 := congrArg (List.take m) h8
        rw [List.take_take, List.take_take] at h9
        simpa using h9
end
end Go.Proofs.Ytilgkfpicdmkkaa.M
end
