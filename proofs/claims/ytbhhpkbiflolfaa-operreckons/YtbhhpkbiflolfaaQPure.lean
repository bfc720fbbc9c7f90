/- Watermarks: whole numbers alone. Nothing of the program is used here. -/
import Derived.Test.YtbhhpkbiflolfaaPPure
namespace Go.Proofs.Ytbhhpkbiflolfaa

/-- The mark of a source that told none. -/
def noM : Int := -4611686018427387904
/-- The first mark. -/
def headM (ms : List Int) : Int := ms.headD noM
/-- The least of all marks. -/
def leastL (ms : List Int) : Int := ms.foldl min (headM ms)
/-- A source tells a mark. -/
def riseL (ms : List Int) (s : Nat) (t : Int) : List Int := ms.set s (max (ms.getD s 0) t)
theorem riseL_length (ms : List Int) (s : Nat) (t : Int) : (riseL ms s t).length = ms.length := by simp [riseL]
/-- Marks that may be: one to eight sources, each without a mark or with a time. -/
structure OkM (ms : List Int) : Prop where
  one : 1 ≤ ms.length
  most : ms.length ≤ 8
  each : ∀ x ∈ ms, noM ≤ x ∧ x ≤ 1152921504606846976
theorem OkM.fits {ms : List Int} (h : OkM ms) : ∀ x ∈ ms, fits x := fun x hx => by
  have := h.each x hx
  unfold noM at this
  unfold Proofs.Ytbhhpkbiflolfaa.fits
  omega
theorem OkM.get {ms : List Int} (h : OkM ms) {i : Nat} (hi : i < ms.length) : noM ≤ ms.getD i 0 ∧ ms.getD i 0 ≤ 1152921504606846976 := by
  have : ms.getD i 0 = ms[i] := by simp [List.getD, hi]
  rw [this]
  exact h.each _ (List.getElem_mem hi)
theorem OkM.new {n : Nat} (h1 : 1 ≤ n) (h8 : n ≤ 8) : OkM (List.replicate n noM) :=
  ⟨by simpa using h1, by simpa using h8, fun x hx => by
    have := List.eq_of_mem_replicate hx
    subst this
    unfold noM
    omega⟩
theorem OkM.rise {ms : List Int} (h : OkM ms) {s : Nat} (hs : s < ms.length) {t : Int} (ht : -1152921504606846976 ≤ t ∧ t ≤ 1152921504606846976) : OkM (riseL ms s t) := by
  refine ⟨by rw [riseL_length]; exact h.one, by rw [riseL_length]; exact h.most, fun x hx => ?_⟩
  rcases List.mem_or_eq_of_mem_set hx with hx | rfl
  · exact h.each x hx
  · have := h.get hs
    unfold noM at this ⊢
    omega
theorem foldl_min_le (xs : List Int) : ∀ a : Int, xs.foldl min a ≤ a ∧ ∀ x ∈ xs, xs.foldl min a ≤ x := by
  induction xs with
  | nil => intro a; exact ⟨Int.le_refl _, fun x hx => by cases hx⟩
  | cons y ys ih =>
    intro a
    obtain ⟨h1, h2⟩ := ih (min a y)
    refine ⟨?_, fun x hx => ?_⟩
    · show ys.foldl min (min a y) ≤ a
      omega
    · show ys.foldl min (min a y) ≤ x
      rcases List.mem_cons.1 hx with rfl | hx
      · omega
      · exact h2 x hx
theorem foldl_min_mem (xs : List Int) : ∀ a : Int, xs.foldl min a = a ∨ xs.foldl min a ∈ xs := by
  induction xs with
  | nil => intro a; exact Or.inl rfl
  | cons y ys ih =>
    intro a
    show ys.foldl min (min a y) = a ∨ ys.foldl min (min a y) ∈ y :: ys
    rcases ih (min a y) with h | h
    · rw [h]
      rcases Int.le_total a y with h1 | h1
      · left; omega
      · right; rw [Int.min_eq_right h1]; exact List.mem_cons_self ..
    · exact Or.inr (List.mem_cons_of_mem _ h)
theorem leastL_le {ms : List Int} {x : Int} (h : x ∈ ms) : leastL ms ≤ x := (foldl_min_le ms _).2 x h
theorem leastL_mem {ms : List Int} (h : 1 ≤ ms.length) : leastL ms ∈ ms := by
  match ms, h with
  | y :: ys, _ =>
    rcases foldl_min_mem (y :: ys) y with h | h
    · show (y :: ys).foldl min y ∈ _
      rw [h]
      exact List.mem_cons_self ..
    · exact h
/-- The least is what is below all, and one of them. -/
theorem leastL_eq {ms : List Int} {x : Int} (h : x ∈ ms) (hle : ∀ y ∈ ms, x ≤ y) : leastL ms = x := by
  have h1 := leastL_le h
  have h2 := hle _ (leastL_mem (by cases ms with | nil => cases h | cons _ _ => simp))
  omega
theorem OkM.least {ms : List Int} (h : OkM ms) : noM ≤ leastL ms ∧ leastL ms ≤ 1152921504606846976 := h.each _ (leastL_mem h.one)
theorem take_min {ms : List Int} {i : Nat} (hi : i < ms.length) (a : Int) : (ms.take (i + 1)).foldl min a = min ((ms.take i).foldl min a) (ms.getD i 0) := by
  rw [List.take_add_one, List.foldl_append]
  simp [List.getD, hi]
end Go.Proofs.Ytbhhpkbiflolfaa
