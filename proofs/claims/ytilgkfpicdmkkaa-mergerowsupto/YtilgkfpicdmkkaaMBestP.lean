import Derived.Test.YtilgkfpicdmkkaaMSortP
/- The document's merge: the least front, looked for from the first list on. Nothing of the program is used here. -/
namespace Go.Proofs.Ytilgkfpicdmkkaa.M
section
variable {T : Type} [Inhabited T] {cm : T → T → Int}
/-- The rest of a place. -/
def rst (F : List (List T)) (p : Nat) : R T := ⟨p, F[p]?.getD []⟩
/-- The best of the first n rests. -/
def Bst (cm : T → T → Int) (F : List (List T)) (n : Nat) : Option Nat → Prop
  | none => ∀ j, j < n → (rst F j).l = []
  | some k => k < n ∧ (rst F k).l ≠ [] ∧ ∀ j, j < n → (rst F j).l ≠ [] → ltR cm (rst F j) (rst F k) = false
theorem Bst.zero (F : List (List T)) : Bst cm F 0 none := fun j hj => by omega
theorem Bst.skip {F : List (List T)} {n : Nat} {k : Option Nat} (h : Bst cm F n k) (he : (rst F n).l = []) : Bst cm F (n + 1) k := by
  cases k with
  | none =>
    intro j hj
    rcases Nat.lt_or_ge j n with h1 | h1
    · exact h j h1
    · have : j = n := by omega
      rw [this]
      exact he
  | some k =>
    obtain ⟨h1, h2, h3⟩ := h
    refine ⟨by omega, h2, fun j hj hne => ?_⟩
    rcases Nat.lt_or_ge j n with h4 | h4
    · exact h3 j h4 hne
    · have : j = n := by omega
      rw [this] at hne
      exact absurd he hne
theorem Bst.first (C : Cm cm) {F : List (List T)} {n : Nat} (h : Bst cm F n none) (he : (rst F n).l ≠ []) : Bst cm F (n + 1) (some n) := by
  refine ⟨by omega, he, fun j hj hne => ?_⟩
  rcases Nat.lt_or_ge j n with h4 | h4
  · exact absurd (h j h4) hne
  · have : j = n := by omega
    rw [this, ltR_false]
    have := C.anti (rst F n).hd (rst F n).hd
    exact Or.inr ⟨by omega, Nat.le_refl _⟩
theorem Bst.better (C : Cm cm) {F : List (List T)} {n k : Nat} (h : Bst cm F n (some k)) (he : (rst F n).l ≠ []) (hl : cm (rst F n).hd (rst F k).hd < 0) : Bst cm F (n + 1) (some n) := by
  obtain ⟨h1, h2, h3⟩ := h
  refine ⟨by omega, he, fun j hj hne => ?_⟩
  rw [ltR_false]
  rcases Nat.lt_or_ge j n with h4 | h4
  · have h5 := h3 j h4 hne
    rw [ltR_false] at h5
    left
    have a1 := C.anti (rst F j).hd (rst F k).hd
    have a2 := C.anti (rst F n).hd (rst F k).hd
    rcases Int.lt_or_le 0 (cm (rst F j).hd (rst F n).hd) with h6 | h6
    · exact h6
    · have h7 := C.trans (rst F k).hd (rst F j).hd (rst F n).hd (by omega) h6
      omega
  · have : j = n := by omega
    rw [this]
    have := C.anti (rst F n).hd (rst F n).hd
    exact Or.inr ⟨by omega, Nat.le_refl _⟩
theorem Bst.stay {F : List (List T)} {n k : Nat} (h : Bst cm F n (some k)) (hl : ¬ cm (rst F n).hd (rst F k).hd < 0) : Bst cm F (n + 1) (some k) := by
  obtain ⟨h1, h2, h3⟩ := h
  refine ⟨by omega, h2, fun j hj hne => ?_⟩
  rcases Nat.lt_or_ge j n with h4 | h4
  · exact h3 j h4 hne
  · have : j = n := by omega
    rw [this, ltR_false]
    have h5 : (rst F n).p = n := rfl
    have h6 : (rst F k).p = k := rfl
    omega
omit [Inhabited T] in
theorem rst_mem {F : List (List T)} {p : Nat} (h : (rst F p).l ≠ []) : rst F p ∈ rs 0 F := by
  have key : ∀ (F : List (List T)) (j k : Nat) (l : List T), F[j]? = some l → l ≠ [] → (⟨k + j, l⟩ : R T) ∈ rs k F := by
    intro F
    induction F with
    | nil => intro j k l h; simp at h
    | cons b F ih =>
      intro j k l h hne
      simp only [rs]
      cases j with
      | zero =>
        simp at h
        subst h
        have : b.isEmpty = false := by cases b with
          | nil => exact absurd rfl hne
          | cons => rfl
        rw [this]
        simp
      | succ j =>
        have h6 := ih j (k + 1) l (by simpa using h) hne
        rw [show k + (j + 1) = k + 1 + j by omega]
        split
        · exact h6
        · exact List.mem_cons_of_mem _ h6
  unfold rst at h ⊢
  cases hp : F[p]? with
  | none => rw [hp] at h; exact absurd rfl h
  | some l =>
    rw [hp] at h
    have := key F p 0 l hp h
    rw [Nat.zero_add] at this
    exact this
omit [Inhabited T] in
theorem mem_rst {F : List (List T)} {r : R T} (h : r ∈ rs 0 F) : r = rst F r.p ∧ r.p < F.length ∧ r.l ≠ [] := by
  obtain ⟨_, h1, h2⟩ := rs_mem h
  rw [Nat.sub_zero] at h1
  refine ⟨?_, (List.getElem?_eq_some_iff.1 h1).1, h2⟩
  obtain ⟨p, l⟩ := r
  unfold rst
  dsimp only at *
  rw [h1]
  rfl
theorem Bst.done (C : Cm cm) {F : List (List T)} (h : Bst cm F F.length none) : merged cm F = [] := by
  refine merged_none C ?_
  cases hr : rs 0 F with
  | nil => rfl
  | cons r l =>
    have hm : r ∈ rs 0 F := by rw [hr]; simp
    obtain ⟨h1, h2, h3⟩ := mem_rst hm
    have := h r.p h2
    rw [← h1] at this
    exact absurd this h3
theorem Bst.take (C : Cm cm) {F : List (List T)} {k : Nat} (h : Bst cm F F.length (some k)) : merged cm F = (rst F k).hd :: merged cm (F.set k (rst F k).l.tail) ∧ tot F = tot (F.set k (rst F k).l.tail) + 1 := by
  obtain ⟨h1, h2, h3⟩ := h
  have hm := rst_mem h2
  have hall : ∀ r ∈ rs 0 F, ltR cm r (rst F k) = false := fun r hr => by
    obtain ⟨e1, e2, e3⟩ := mem_rst hr
    rw [e1] at e3 ⊢
    exact h3 r.p e2 e3
  exact ⟨merged_some C hm hall, tot_step hm⟩
end
end Go.Proofs.Ytilgkfpicdmkkaa.M
