/- The law's ends and floats: walks. -/
import Derived.Test.YtmfkccdlblebjaaFlM
import Derived.Test.YtmfkccdlblebjaaALeastI
namespace Go.Proofs.Ytmfkccdlblebjaa
open Go.RowKit

theorem stat_ends (xs : List Int) : (∀ x ∈ xs, (stat xs).lo ≤ x ∧ x ≤ (stat xs).hi) ∧ (xs ≠ [] → (stat xs).lo ∈ xs ∧ (stat xs).hi ∈ xs) := by
  have key : ∀ n (xs : List Int), xs.length = n → (∀ x ∈ xs, (stat xs).lo ≤ x ∧ x ≤ (stat xs).hi) ∧ (xs ≠ [] → (stat xs).lo ∈ xs ∧ (stat xs).hi ∈ xs) := by
    intro n
    induction n with
    | zero =>
      intro xs h
      have : xs = [] := List.eq_nil_of_length_eq_zero h
      subst this
      exact ⟨(fun x hx => by cases hx), fun h => absurd rfl h⟩
    | succ n ih =>
      intro xs h
      obtain ⟨ys, y, rfl⟩ : ∃ ys y, xs = ys ++ [y] := ⟨xs.dropLast, xs.getLast (by intro e; rw [e] at h; simp at h), (List.dropLast_concat_getLast _).symm⟩
      have hl : ys.length = n := by simp at h; exact h
      obtain ⟨h1, h2⟩ := ih ys hl
      rw [stat_snoc]
      by_cases hz : ys = []
      · subst hz
        refine ⟨fun x hx => ?_, fun _ => ?_⟩
        · simp at hx
          subst hx
          exact ⟨Int.le_refl _, Int.le_refl _⟩
        · exact ⟨by simp [stat, lo_first], by simp [stat, hi_first]⟩
      · have hc : ¬ (stat ys).c = 0 := by
          rw [stat_count]
          have := List.length_pos_iff.2 hz
          omega
        obtain ⟨m1, m2⟩ := h2 hz
        rw [lo_step _ hc, hi_step _ hc]
        refine ⟨fun x hx => ?_, fun _ => ⟨?_, ?_⟩⟩
        · rcases List.mem_append.1 hx with hx | hx
          · have := h1 x hx
            split <;> split <;> omega
          · simp at hx
            subst hx
            split <;> split <;> omega
        · split
          · simp
          · simp [m1]
        · split
          · simp
          · simp [m2]
  exact key _ xs rfl

theorem any_take {α : Type} (xs : List α) (d : α) (p : α → Bool) (k : Nat) (h : k < xs.length) : (xs.take (k + 1)).any p = ((xs.take k).any p || p (xs.getD k d)) := by
  rw [List.take_succ_eq_append_getElem h, List.any_append]
  simp [List.getD, h]

set_option maxHeartbeats 2000000 in
theorem ends_any (v : Value) (xs : List Int) (w : World) (hv : Is w v xs) :
    Calls Try.prog 13 #[v, .int .i64 (stat xs).lo, .int .i64 (stat xs).hi] w fun e w' => e = .returned (.bool true) ∧ w' = w := by
  obtain ⟨h1, h2⟩ := stat_ends xs
  obtain ⟨z, hz⟩ : ∃ z : Bool, z = ((xs.length : Int) == 0) := ⟨_, rfl⟩
  have HEL : Hid ((z || xs.any (fun y => y == (stat xs).lo)) = true) := by
    show (z || xs.any (fun y => y == (stat xs).lo)) = true
    by_cases he : xs = []
    · subst he; rw [hz]; rfl
    · rw [Bool.or_eq_true]; right; rw [List.any_eq_true]; exact ⟨_, (h2 he).1, by simp⟩
  have HEH : Hid ((z || xs.any (fun y => y == (stat xs).hi)) = true) := by
    show (z || xs.any (fun y => y == (stat xs).hi)) = true
    by_cases he : xs = []
    · subst he; rw [hz]; rfl
    · rw [Bool.or_eq_true]; right; rw [List.any_eq_true]; exact ⟨_, (h2 he).2, by simp⟩
  clear h1 h2
  generalize (stat xs).lo = lo at *
  generalize (stat xs).hi = hi at *
  obtain ⟨ao, cap, rfl, hlen, _, hcell⟩ := hv
  have HC := hid hcell
  have HZ := hid hz
  clear hcell hz
  go_enter Try.func13, Try.ntmps13
  go_wp2_with fail
  go_loop [7, 8, 9] (fun p q i => ∃ (k : Nat), k ≤ xs.length ∧ i = .int .i64 (k : Int) ∧ p = .bool (z || (xs.take k).any (fun y => y == lo)) ∧ q = .bool (z || (xs.take k).any (fun y => y == hi))) (fun _ _ i => xs.length - (intOf i).toNat)
  case atStart => exact ⟨0, Nat.zero_le _, rfl, by rw [HZ.out]; simp, by rw [HZ.out]; simp⟩
  case round =>
    obtain ⟨k, hk, rfl, rfl, rfl⟩ := hrel
    by_cases hlt : k < xs.length
    · obtain ⟨b, off, rfl, hck⟩ := HC.out (by intro e; subst e; simp at hlt)
      have t1 : (k : Int) < (xs.length : Int) := by omega
      have hxk := hck k hlt
      have HL : Hid ((z || (xs.take (k + 1)).any (fun y => y == lo)) = ((z || (xs.take k).any (fun y => y == lo)) || (xs.getD k 0 == lo))) := by
        show _ = _
        rw [any_take xs 0 _ k hlt, Bool.or_assoc]
      have HH : Hid ((z || (xs.take (k + 1)).any (fun y => y == hi)) = ((z || (xs.take k).any (fun y => y == hi)) || (xs.getD k 0 == hi))) := by
        show _ = _
        rw [any_take xs 0 _ k hlt, Bool.or_assoc]
      generalize xs.getD k 0 = x at *
      generalize (z || (xs.take k).any (fun y => y == lo)) = p at *
      generalize (z || (xs.take k).any (fun y => y == hi)) = q at *
      clear hck HEL HEH HZ
      cases p <;> cases q
      all_goals (go_wp2_with fail)
      all_goals go_round
      all_goals (first | (case rel => exact ⟨k + 1, by omega, by go_num, by rw [HL.out]; simp, by rw [HH.out]; simp⟩) | skip)
      all_goals (first | (case measure => simp [intOf]; omega) | skip)
    · have t1 : ¬ (k : Int) < (xs.length : Int) := by omega
      have e : xs.take k = xs := List.take_of_length_le (by omega)
      rw [e, HEL.out, HEH.out]
      clear e
      go_wp2_with fail
      go_ret
      exact ⟨rfl, rfl⟩
end Go.Proofs.Ytmfkccdlblebjaa
