/- Aggregates of lists, by true numbers: what Fold tells, that it is right, that parts make the whole. -/
import Derived.Test.YtmfkccdlblebjabAFold
namespace Go.Proofs.Ytmfkccdlblebjab
open Go.RowKit

/-- One value more, nothing being asked of its size. -/
def stepA (a : Ag) (x : Int) : Ag := if a.c = 0 then ⟨1, x, x, x⟩ else ⟨a.c + 1, a.s + x, min a.lo x, max a.hi x⟩
def joinA (a b : Ag) : Ag := ⟨a.c + b.c, a.s + b.s, min a.lo b.lo, max a.hi b.hi⟩
def stat (xs : List Int) : Ag := xs.foldl stepA Ag.zero

/-- It is the zero one, or holds values and is right. -/
def Fine (a : Ag) : Prop := a = Ag.zero ∨ (1 ≤ a.c ∧ rightB a.c a.s a.lo a.hi = true)

theorem right_one (x : Int) : rightB 1 x x x = true := by simp [rightB]
theorem right_two {c s lo hi : Int} (h : 2 ≤ c) : rightB c s lo hi = true ↔ (lo ≤ hi ∧ (c - 2) * lo + lo + hi ≤ s ∧ s ≤ (c - 2) * hi + lo + hi) := by
  unfold rightB
  rw [if_neg (by omega), if_neg (by omega)]
  simp
theorem right_put (c s lo hi x : Int) (hc : 1 ≤ c) (h : rightB c s lo hi = true) : rightB (c + 1) (s + x) (min lo x) (max hi x) = true := by
  rw [right_two (by omega)]
  by_cases h1 : c = 1
  · subst h1
    have : s = lo ∧ s = hi := by simpa [rightB] using h
    obtain ⟨e1, e2⟩ := this
    rw [← e1, ← e2]
    simp only [show (1 : Int) + 1 - 2 = 0 from by omega, Int.zero_mul]
    omega
  · rw [right_two (by omega)] at h
    obtain ⟨a1, a2, a3⟩ := h
    obtain ⟨k, hk⟩ : ∃ k, k = c - 2 := ⟨_, rfl⟩
    have hk0 : 0 ≤ k := by omega
    have e : c + 1 - 2 = k + 1 := by omega
    rw [← hk] at a2 a3
    rw [e]
    rcases Int.lt_or_le x lo with hx | hx
    · have m1 := Int.mul_le_mul_of_nonneg_left (show x ≤ lo by omega) hk0
      rw [Int.min_eq_right (by omega), Int.max_eq_left (by omega), Int.add_mul, Int.add_mul]
      omega
    · rw [Int.min_eq_left hx]
      rcases Int.lt_or_le hi x with hy | hy
      · have m1 := Int.mul_le_mul_of_nonneg_left (show hi ≤ x by omega) hk0
        rw [Int.max_eq_right (by omega), Int.add_mul, Int.add_mul]
        omega
      · rw [Int.max_eq_left hy, Int.add_mul, Int.add_mul]
        omega
theorem fine_step {a : Ag} (h : Fine a) (x : Int) : Fine (stepA a x) := by
  unfold stepA
  rcases h with rfl | ⟨h1, h2⟩
  · exact Or.inr ⟨Int.le_refl 1, right_one x⟩
  · rw [if_neg (by omega)]
    exact Or.inr ⟨by simp only; omega, right_put _ _ _ _ _ h1 h2⟩
theorem fine_fold {a : Ag} (h : Fine a) (xs : List Int) : Fine (xs.foldl stepA a) := by
  induction xs generalizing a with
  | nil => exact h
  | cons x xs ih => exact ih (fine_step h x)
theorem fine_stat (xs : List Int) : Fine (stat xs) := fine_fold (Or.inl rfl) xs
theorem fine_right {a : Ag} (h : Fine a) : rightB a.c a.s a.lo a.hi = true := by
  rcases h with rfl | h
  · decide
  · exact h.2

theorem fold_count (a : Ag) (h : 0 ≤ a.c) (xs : List Int) : (xs.foldl stepA a).c = a.c + xs.length := by
  induction xs generalizing a with
  | nil => simp
  | cons x xs ih =>
    have e : (stepA a x).c = a.c + 1 := by
      unfold stepA
      split
      · simp only; omega
      · rfl
    rw [List.foldl_cons, ih _ (by omega), e]
    simp
    omega
theorem stat_count (xs : List Int) : (stat xs).c = xs.length := by
  have := fold_count Ag.zero (by decide) xs
  rw [stat, this]
  simp [Ag.zero]

/-- Where nothing is too great, Put is a step. -/
theorem putE_step {a r : Ag} {x : Int} (h : putE a x = .ok r) (ha : Fine a) : r = stepA a x := by
  unfold putE at h
  unfold stepA
  split at h
  · rename_i hc
    rw [if_pos hc]
    unfold joinE at h
    split at h
    · split at h
      · cases h
        rcases ha with rfl | ha
        · simp [Ag.zero]
        · omega
      · cases h
    · cases h
  · rename_i hc
    rw [if_neg hc]
    unfold joinE at h
    split at h
    · split at h
      · cases h
        rfl
      · cases h
    · cases h
theorem foldE_fold {a r : Ag} {xs : List Int} (h : foldE a xs = .ok r) (ha : Fine a) : r = xs.foldl stepA a := by
  induction xs generalizing a with
  | nil =>
    cases h
    rfl
  | cons x xs ih =>
    simp only [foldE] at h
    cases hp : putE a x with
    | error p => rw [hp] at h; cases h
    | ok b =>
      rw [hp] at h
      have e := putE_step hp ha
      subst e
      exact ih h (fine_step ha x)
theorem foldE_stat {r : Ag} {xs : List Int} (h : foldE Ag.zero xs = .ok r) : r = stat xs := foldE_fold h (Or.inl rfl)

/-- Joining is stepping on. -/
theorem step_join (a b : Ag) (ha : 1 ≤ a.c) (hb : 1 ≤ b.c) (x : Int) : stepA (joinA a b) x = joinA a (stepA b x) := by
  unfold stepA joinA
  rw [if_neg (by simp only; omega), if_neg (by omega)]
  simp only [Ag.mk.injEq]
  omega
theorem step_pos (a : Ag) (h : 0 ≤ a.c) (x : Int) : 1 ≤ (stepA a x).c := by
  unfold stepA
  split
  · exact Int.le_refl 1
  · simp only; omega
theorem fold_join (a b : Ag) (ha : 1 ≤ a.c) (hb : 1 ≤ b.c) (ys : List Int) : ys.foldl stepA (joinA a b) = joinA a (ys.foldl stepA b) := by
  induction ys generalizing b with
  | nil => rfl
  | cons y ys ih =>
    rw [List.foldl_cons, step_join a b ha hb, ih _ (step_pos b (by omega) y), List.foldl_cons]
theorem stat_join (xs ys : List Int) (hx : xs ≠ []) (hy : ys ≠ []) : stat (xs ++ ys) = joinA (stat xs) (stat ys) := by
  have hc : 1 ≤ (stat xs).c := by
    rw [stat_count]
    have := List.length_pos_iff.2 hx
    omega
  match ys, hy with
  | y :: ys, _ =>
    have e : stepA (stat xs) y = joinA (stat xs) ⟨1, y, y, y⟩ := by
      unfold stepA joinA
      rw [if_neg (by omega)]
    have e2 : stat (y :: ys) = ys.foldl stepA ⟨1, y, y, y⟩ := by
      unfold stat
      rw [List.foldl_cons]
      rfl
    unfold stat at *
    rw [List.foldl_append, List.foldl_cons, e, fold_join _ _ hc (Int.le_refl 1), e2]
end Go.Proofs.Ytmfkccdlblebjab
