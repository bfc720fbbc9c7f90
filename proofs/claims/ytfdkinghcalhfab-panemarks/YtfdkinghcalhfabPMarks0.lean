/- What is open among starts: those behind a cut. Whole numbers and lists. -/
import Derived.Test.YtfdkinghcalhfabPDel2
namespace Go.Proofs.Ytfdkinghcalhfab
open Go.RowKit

theorem filter_range (c : Nat) : ∀ n : Nat, (List.range n).filter (fun i => decide (c ≤ i)) = (List.range n).drop c
  | 0 => by simp
  | n + 1 => by
    rw [List.range_succ, List.filter_append, filter_range c n, List.drop_append, List.length_range]
    congr 1
    by_cases h : c ≤ n
    · rw [show c - n = 0 by omega]
      simp [h]
    · obtain ⟨m, hm⟩ : ∃ m, c - n = m + 1 := ⟨c - n - 1, by omega⟩
      rw [hm]
      simp [h]
/-- How many of a time's windows are closed under a mark. -/
def cutP (s d l t m : Int) : Nat := min (oldK s d (m - l) - oldK s d t).toNat (numP s d t)
theorem shut_iff {s d l m k : Int} (hd : 1 ≤ d) : shutB s l m (k * d) = true ↔ k < oldK s d (m - l) := by
  unfold shutB
  rw [oldK_gt hd]
  simp
  omega
theorem openL_drop {s d l t m : Int} (hd : 1 ≤ d) : openL s l m (startsL s d t) = (startsL s d t).drop (cutP s d l t m) := by
  unfold openL startsL
  rw [List.filter_map, ← List.map_drop, ← filter_range]
  congr 1
  apply List.filter_congr
  intro i hi
  have hi' := List.mem_range.1 hi
  have h := shut_iff (s := s) (l := l) (m := m) (k := oldK s d t + (i : Int)) hd
  simp only [Function.comp]
  unfold cutP
  cases hb : shutB s l m ((oldK s d t + (i : Int)) * d) with
  | true =>
    have := h.1 hb
    symm
    simp
    omega
  | false =>
    have h2 : ¬ oldK s d t + (i : Int) < oldK s d (m - l) := fun h3 => by
      have := h.2 h3
      rw [hb] at this
      cases this
    symm
    simp
    omega
theorem openL_length {s d l t m : Int} (hd : 1 ≤ d) : (openL s l m (startsL s d t)).length = numP s d t - cutP s d l t m := by rw [openL_drop hd, List.length_drop, startsL_length]
theorem cutP_le (s d l t m : Int) : cutP s d l t m ≤ numP s d t := Nat.min_le_right _ _
theorem oldK_mono {s d t u : Int} (hd : 1 ≤ d) (h : t ≤ u) : oldK s d t ≤ oldK s d u := by
  rw [oldK_le hd]
  have := (oldK_le (s := s) (t := u) (k := oldK s d u) hd).1 (Int.le_refl _)
  omega
theorem cutP_mono {s d l t m n : Int} (hd : 1 ≤ d) (h : m ≤ n) : cutP s d l t m ≤ cutP s d l t n := by
  have := oldK_mono (s := s) hd (show m - l ≤ n - l by omega)
  unfold cutP
  omega
/-- What is open under the greater mark is the end of what is open under the lesser. -/
theorem openL_end {s d l t m n : Int} (hd : 1 ≤ d) (h : m ≤ n) : openL s l n (startsL s d t) = (openL s l m (startsL s d t)).drop ((openL s l m (startsL s d t)).length - (openL s l n (startsL s d t)).length) := by
  have h1 := cutP_mono (s := s) (l := l) (t := t) hd h
  have h2 := cutP_le s d l t n
  rw [openL_length hd, openL_length hd, openL_drop hd, openL_drop hd, List.drop_drop]
  congr 1
  omega
theorem openL_tail {s d l t m : Int} (hd : 1 ≤ d) : openL s l m (startsL s d t) = (startsL s d t).drop ((startsL s d t).length - (openL s l m (startsL s d t)).length) := by
  have h2 := cutP_le s d l t m
  rw [openL_length hd, openL_drop hd, startsL_length]
  congr 1
  omega
theorem openL_all {s d l t m : Int} (h : OkV s d l) (hm : m + 2 * s ≤ t) : openL s l m (startsL s d t) = startsL s d t := by
  apply List.filter_eq_self.2
  intro x hx
  obtain ⟨k, _, h1, h2⟩ := (startsL_mem h.s1 h.d1).1 hx
  have := h.l1
  have := h.s1
  unfold shutB
  simp
  omega
/-- A start is First or above just where it stands behind the cut. -/
theorem first_cut {s d l t m : Int} {i : Nat} (hd : 1 ≤ d) (hi : i < numP s d t) : decide (oldK s d (m - l) * d ≤ (startsL s d t).getD i 0) = decide (((startsL s d t).length : Int) - ((openL s l m (startsL s d t)).length : Int) ≤ (i : Int)) := by
  rw [startsL_get hi, openL_length hd, startsL_length, decide_eq_decide]
  have h2 := cutP_le s d l t m
  have h3 : oldK s d (m - l) * d ≤ (oldK s d t + (i : Int)) * d ↔ oldK s d (m - l) ≤ oldK s d t + (i : Int) := by
    have := mul_lt (a := oldK s d t + (i : Int)) (b := oldK s d (m - l)) (d := d) (by omega)
    omega
  rw [h3]
  unfold cutP at h2 ⊢
  omega
end Go.Proofs.Ytfdkinghcalhfab
