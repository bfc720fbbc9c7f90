/- agg.Merge: its walk. -/
import Derived.Test.YtmfkccdlblebjabAStat
namespace Go.Proofs.Ytmfkccdlblebjab
open Go.RowKit

def mergeE (a b : Ag) : Except (Int × Int) Ag := if a.c = 0 then .ok b else if b.c = 0 then .ok a else joinE a b

set_option maxHeartbeats 1000000 in
theorem merge_any (a b : Ag) (ha : a.ok) (hb : b.ok) (w : World) :
    Calls Try.prog 11 #[.agg #[.int .i64 a.c, .int .i64 a.s, .int .i64 a.lo, .int .i64 a.hi], .agg #[.int .i64 b.c, .int .i64 b.s, .int .i64 b.lo, .int .i64 b.hi]] w (Ans w (mergeE a b)) := by
  unfold mergeE
  by_cases h1 : a.c = 0
  · rw [if_pos h1, h1]
    clear h1
    go_enter Try.func11, Try.ntmps11
    go_wp2_with fail
    exact bodyPost_ret (v := .tuple #[.agg #[.int .i64 b.c, .int .i64 b.s, .int .i64 b.lo, .int .i64 b.hi], .nilIface]) (by simp [results, Try.results11, go_sem]) rfl ⟨((alloc_fr _ _ _).alloc _).alloc _, rfl⟩
  · rw [if_neg h1]
    have b1 : (a.c == 0) = false := by simpa using h1
    by_cases h2 : b.c = 0
    · rw [if_pos h2, h2]
      clear h1 h2
      go_enter Try.func11, Try.ntmps11
      go_wp2_with fail
      exact bodyPost_ret (v := .tuple #[.agg #[.int .i64 a.c, .int .i64 a.s, .int .i64 a.lo, .int .i64 a.hi], .nilIface]) (by simp [results, Try.results11, go_sem]) rfl ⟨((alloc_fr _ _ _).alloc _).alloc _, rfl⟩
    · rw [if_neg h2]
      have b2 : (b.c == 0) = false := by simpa using h2
      have HJ := hid (fun W : World => join_any a b ha hb W)
      generalize joinE a b = r at *
      clear h1 h2 ha hb
      go_enter Try.func11, Try.ntmps11
      go_wp2_with fail
      refine (HJ.out _).mono ?_
      rintro e w1 ⟨hf, hr⟩
      obtain ⟨hc1, hc2⟩ := fr_rules hf
      have hz : w.heap.size + 1 + 1 < w1.heap.size := by have := hf.size; simp at this; omega
      have HF := hid ((((alloc_fr w _ _).alloc _).alloc _).trans hf)
      clear hf HJ
      cases r with
      | ok r =>
        have hr := hr.symm
        subst hr
        go_wp2_with fail
        exact bodyPost_ret (v := .tuple #[.agg #[.int .i64 r.c, .int .i64 r.s, .int .i64 r.lo, .int .i64 r.hi], .nilIface]) (by simp [results, Try.results11, go_sem, hc1]) rfl ⟨fr_set4 HF.out (by omega) _ _ _ _, rfl⟩
      | error p =>
        obtain ⟨o, rfl, ho, hge⟩ := hr
        have HB := hid ho
        have hne : o ≠ w.heap.size + 1 + 1 := by simp at hge; omega
        have HG := hid (show w.heap.size ≤ o by simp at hge; omega)
        clear ho hge
        unfold overV
        go_wp2_with fail
        exact bodyPost_ret (v := .tuple #[.agg #[.int .i64 0, .int .i64 0, .int .i64 0, .int .i64 0], overV o]) (by simp [results, Try.results11, go_sem, hc1, overV]) rfl ⟨fr_set4 HF.out (by omega) _ _ _ _, o, rfl, (heap_set4 hne _ _ _ _).trans HB.out, HG.out⟩

/-- What is merged stays made of numbers that fit. -/
theorem mergeE_ok {a b r : Ag} (ha : a.ok) (hb : b.ok) (h : mergeE a b = .ok r) : r.ok := by
  unfold mergeE at h
  split at h
  · cases h; exact hb
  · split at h
    · cases h; exact ha
    · exact joinE_ok ha hb h
theorem min_comm' (a b : Int) : min a b = min b a := by omega
theorem max_comm' (a b : Int) : max a b = max b a := by omega
theorem joinE_swap_ok {a b r : Ag} (h : joinE a b = .ok r) : joinE b a = .ok r := by
  unfold joinE at *
  rw [Int.add_comm b.c, Int.add_comm b.s, min_comm' b.lo, max_comm' b.hi]
  split at h
  · split at h
    · rename_i h1 h2
      rw [if_pos h1, if_pos h2]
      exact h
    · cases h
  · cases h
theorem joinE_swap_err {a b : Ag} {p : Int × Int} (h : joinE a b = .error p) : ∃ q, joinE b a = .error q := by
  cases h2 : joinE b a with
  | error q => exact ⟨q, rfl⟩
  | ok r => rw [joinE_swap_ok h2] at h; cases h
/-- Folds merge in either order. -/
theorem merge_swap_ok {xs ys : List Int} {r : Ag} (h : mergeE (stat xs) (stat ys) = .ok r) : mergeE (stat ys) (stat xs) = .ok r := by
  unfold mergeE at *
  split at h
  · rename_i h1
    cases h
    split
    · rename_i h2
      have e1 := stat_count xs
      have e2 := stat_count ys
      have hx : xs = [] := List.eq_nil_of_length_eq_zero (by omega)
      have hy : ys = [] := List.eq_nil_of_length_eq_zero (by omega)
      rw [hx, hy]
    · rfl
  · rename_i h1
    split at h
    · rename_i h2
      cases h
      rw [if_pos h2]
    · rename_i h2
      rw [if_neg h2, if_neg h1]
      exact joinE_swap_ok h
theorem merge_swap_err {xs ys : List Int} {p : Int × Int} (h : mergeE (stat xs) (stat ys) = .error p) : ∃ q, mergeE (stat ys) (stat xs) = .error q := by
  cases h2 : mergeE (stat ys) (stat xs) with
  | error q => exact ⟨q, rfl⟩
  | ok r => rw [merge_swap_ok h2] at h; cases h
theorem merge_stat {xs ys : List Int} {r : Ag} (h : mergeE (stat xs) (stat ys) = .ok r) : r = stat (xs ++ ys) := by
  unfold mergeE at h
  have e1 := stat_count xs
  have e2 := stat_count ys
  split at h
  · rename_i h1
    cases h
    have hx : xs = [] := List.eq_nil_of_length_eq_zero (by omega)
    rw [hx, List.nil_append]
  · rename_i h1
    split at h
    · rename_i h2
      cases h
      have hy : ys = [] := List.eq_nil_of_length_eq_zero (by omega)
      rw [hy, List.append_nil]
    · rename_i h2
      have hx : xs ≠ [] := by intro e; subst e; simp at e1; omega
      have hy : ys ≠ [] := by intro e; subst e; simp at e2; omega
      rw [stat_join xs ys hx hy]
      unfold joinE at h
      split at h
      · split at h
        · cases h; rfl
        · cases h
      · cases h
end Go.Proofs.Ytmfkccdlblebjab
