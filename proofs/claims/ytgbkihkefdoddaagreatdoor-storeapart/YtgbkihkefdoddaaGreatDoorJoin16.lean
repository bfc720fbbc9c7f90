/- Shards as lists of cells with versions: finding, writing, numbers. Nothing of the program is used here. -/
import Derived.Test.YtgbkihkefdoddaaGreatDoorJoin13
namespace Go.Proofs.YtgbkihkefdoddaaGreatDoor.S
open G

noncomputable instance : DecidableEq Cl := fun a b => Classical.propDecidable (a = b)

/-- What a shard has: cells with their versions. -/
abbrev Vw := List (Cl × List Vn)
noncomputable def getV : Vw → Cl → List Vn
  | [], _ => []
  | e :: r, c => if e.1 = c then e.2 else getV r c
noncomputable def setV : Vw → Cl → List Vn → Vw
  | [], c, L => [(c, L)]
  | e :: r, c, L => if e.1 = c then (c, L) :: r else e :: setV r c L
/-- Versions, cells that are there, the most versions of a cell. -/
def nV : Vw → Nat
  | [] => 0
  | e :: r => e.2.length + nV r
def th (L : List Vn) : Nat := if (nw L).t then 1 else 0
def nT : Vw → Nat
  | [] => 0
  | e :: r => th e.2 + nT r
def mxV : Vw → Nat
  | [] => 0
  | e :: r => max e.2.length (mxV r)
def nU (V : Vw) : Nat := nV V + nT V
theorem th_nil : th [] = 0 := rfl
theorem th_le (L : List Vn) : th L ≤ 1 := by unfold th; split <;> omega
theorem th_len {L : List Vn} : th L ≤ L.length := by
  cases L with
  | nil => exact Nat.le_refl _
  | cons x r => have := th_le (x :: r); simp; omega
theorem setV_nV (V : Vw) (c : Cl) (L : List Vn) : nV (setV V c L) + (getV V c).length = nV V + L.length := by
  induction V with
  | nil => simp [setV, getV, nV]
  | cons e r ih =>
    unfold setV getV
    by_cases h : e.1 = c
    · rw [if_pos h, if_pos h]
      simp only [nV]
      omega
    · rw [if_neg h, if_neg h]
      simp only [nV]
      omega
theorem setV_nT (V : Vw) (c : Cl) (L : List Vn) : nT (setV V c L) + th (getV V c) = nT V + th L := by
  induction V with
  | nil => simp [setV, getV, nT, th_nil]
  | cons e r ih =>
    unfold setV getV
    by_cases h : e.1 = c
    · rw [if_pos h, if_pos h]
      simp only [nT]
      omega
    · rw [if_neg h, if_neg h]
      simp only [nT]
      omega
theorem getV_le (V : Vw) (c : Cl) : (getV V c).length ≤ mxV V := by
  induction V with
  | nil => simp [getV]
  | cons e r ih =>
    unfold getV
    split
    · simp only [mxV]; omega
    · simp only [mxV]; omega
theorem setV_mx (V : Vw) (c : Cl) (L : List Vn) (h : (getV V c).length ≤ L.length) : mxV (setV V c L) = max (mxV V) L.length := by
  induction V with
  | nil => simp [setV, mxV]
  | cons e r ih =>
    unfold setV
    unfold getV at h
    by_cases hc : e.1 = c
    · rw [if_pos hc]
      rw [if_pos hc] at h
      simp only [mxV]
      omega
    · rw [if_neg hc]
      rw [if_neg hc] at h
      simp only [mxV]
      rw [ih h]
      omega
theorem getV_set (V : Vw) (c d : Cl) (L : List Vn) : getV (setV V c L) d = if c = d then L else getV V d := by
  induction V with
  | nil => simp [setV, getV]
  | cons e r ih =>
    unfold setV
    by_cases h : e.1 = c
    · rw [if_pos h]
      simp only [getV]
      rw [h]
      split <;> rfl
    · rw [if_neg h]
      simp only [getV]
      rw [ih]
      by_cases h2 : e.1 = d
      · rw [if_pos h2, if_pos h2]
        rw [if_neg (fun e2 => h (h2.trans e2.symm))]
      · rw [if_neg h2, if_neg h2]
theorem getV_nV (V : Vw) (c : Cl) : (getV V c).length ≤ nV V ∧ th (getV V c) ≤ nT V := by
  induction V with
  | nil => simp [getV, th_nil]
  | cons e r ih =>
    unfold getV
    simp only [nV, nT]
    split <;> omega

/-- The same with where the chains lie. -/
structure Ent where
  c : Cl
  b : Nat
  cv : Value
  L : List Vn
def pr (e : Ent) : Cl × List Vn := (e.c, e.L)
noncomputable def getM : List Ent → Cl → Option Ent
  | [], _ => none
  | e :: r, c => if e.c = c then some e else getM r c
noncomputable def setM : List Ent → Ent → List Ent
  | [], x => [x]
  | e :: r, x => if e.c = x.c then x :: r else e :: setM r x
theorem getM_some {M : List Ent} {c : Cl} {e : Ent} (h : getM M c = some e) : e ∈ M ∧ e.c = c := by
  induction M with
  | nil => simp [getM] at h
  | cons x r ih =>
    unfold getM at h
    by_cases hx : x.c = c
    · rw [if_pos hx] at h
      cases h
      exact ⟨by simp, hx⟩
    · rw [if_neg hx] at h
      exact ⟨List.mem_cons_of_mem _ (ih h).1, (ih h).2⟩
theorem getM_none {M : List Ent} {c : Cl} (h : getM M c = none) : ∀ e ∈ M, e.c ≠ c := by
  induction M with
  | nil => intro e he; simp at he
  | cons x r ih =>
    unfold getM at h
    by_cases hx : x.c = c
    · rw [if_pos hx] at h; cases h
    · rw [if_neg hx] at h
      intro e he
      rcases List.mem_cons.1 he with rfl | he
      · exact hx
      · exact ih h e he
theorem getM_getV (M : List Ent) (c : Cl) : getV (M.map pr) c = match getM M c with | some e => e.L | none => [] := by
  induction M with
  | nil => rfl
  | cons x r ih =>
    simp only [List.map_cons, getV, getM, pr]
    by_cases hx : x.c = c
    · rw [if_pos hx, if_pos hx]
    · rw [if_neg hx, if_neg hx]
      exact ih
theorem setM_pr (M : List Ent) (x : Ent) : (setM M x).map pr = setV (M.map pr) x.c x.L := by
  induction M with
  | nil => rfl
  | cons e r ih =>
    simp only [List.map_cons, setM, setV, pr]
    by_cases h : e.c = x.c
    · rw [if_pos h, if_pos h]
      rfl
    · rw [if_neg h, if_neg h]
      simp only [List.map_cons, ih]
      rfl
/-- Apart: cells, chains' blocks, rows. -/
def apr (a b : Ent) : Prop := a.c ≠ b.c ∧ a.b ≠ b.b ∧ ∀ k, a.cv.ownBlock = some k → b.cv.ownBlock ≠ some k
theorem apr_symm {a b : Ent} (h : apr a b) : apr b a := ⟨fun e => h.1 e.symm, fun e => h.2.1 e.symm, fun k h1 h2 => h.2.2 k h2 h1⟩
theorem mem_setM {M : List Ent} {x e : Ent} (hM : M.Pairwise apr) : e ∈ setM M x ↔ e = x ∨ (e ∈ M ∧ e.c ≠ x.c) := by
  induction M with
  | nil => simp [setM]
  | cons y r ih =>
    obtain ⟨h1, h2⟩ := List.pairwise_cons.1 hM
    unfold setM
    by_cases h : y.c = x.c
    · rw [if_pos h]
      simp only [List.mem_cons]
      constructor
      · rintro (rfl | he)
        · exact Or.inl rfl
        · exact Or.inr ⟨Or.inr he, fun e2 => (h1 e he).1 (h.trans e2.symm)⟩
      · rintro (rfl | ⟨rfl | he, hc⟩)
        · exact Or.inl rfl
        · exact absurd h hc
        · exact Or.inr he
    · rw [if_neg h]
      simp only [List.mem_cons, ih h2]
      constructor
      · rintro (rfl | rfl | ⟨he, hc⟩)
        · exact Or.inr ⟨Or.inl rfl, h⟩
        · exact Or.inl rfl
        · exact Or.inr ⟨Or.inr he, hc⟩
      · rintro (rfl | ⟨rfl | he, hc⟩)
        · exact Or.inr (Or.inl rfl)
        · exact Or.inl rfl
        · exact Or.inr (Or.inr ⟨he, hc⟩)
theorem setM_apr {M : List Ent} {x : Ent} (hM : M.Pairwise apr) (hx : ∀ e ∈ M, e.c ≠ x.c → apr e x) : (setM M x).Pairwise apr := by
  induction M with
  | nil => simp [setM]
  | cons y r ih =>
    obtain ⟨h1, h2⟩ := List.pairwise_cons.1 hM
    unfold setM
    by_cases h : y.c = x.c
    · rw [if_pos h]
      refine List.pairwise_cons.2 ⟨fun e he => ?_, h2⟩
      exact apr_symm (hx e (List.mem_cons_of_mem _ he) (fun e2 => (h1 e he).1 (h.trans e2.symm)))
    · rw [if_neg h]
      refine List.pairwise_cons.2 ⟨fun e he => ?_, ih h2 (fun e he => hx e (List.mem_cons_of_mem _ he))⟩
      rcases (mem_setM h2).1 he with rfl | ⟨he, _⟩
      · exact hx y (by simp) h
      · exact h1 e he
theorem nV_len {M : List Ent} (h : ∀ e ∈ M, e.L ≠ []) : M.length ≤ nV (M.map pr) := by
  induction M with
  | nil => simp
  | cons x r ih =>
    have h1 := List.length_pos_iff.2 (h x (by simp))
    have h2 := ih (fun e he => h e (List.mem_cons_of_mem _ he))
    simp only [List.map_cons, nV, pr, List.length_cons]
    omega
end Go.Proofs.YtgbkihkefdoddaaGreatDoor.S
