/- The law's floats: walk. -/
import Derived.Test.YtmfkccdlblebjaaFlE
namespace Go.Proofs.Ytmfkccdlblebjaa
open Go.RowKit

theorem eqF_zero : eqF 0 0 = true := by decide +kernel

set_option maxHeartbeats 4000000 in
theorem floats_any (v : Value) (xs : List Nat) (w : World) (hv : Fs w v xs) (hn : ∀ x ∈ xs, numF x) :
    Calls Try.prog 12 #[v] w fun e w' => e = .returned (.bool true) ∧ w' = w := by
  have HL1 := hid (leastF_any v xs w hv)
  have HM1 := hid (mostF_any v xs w hv)
  have HB1 := hid (least_best xs hn)
  have HB2 := hid (most_best xs hn)
  have HEL : Hid (xs ≠ [] → xs.any (fun y => eqF y (foreF ltF xs)) = true) := by
    intro he
    rw [List.any_eq_true]
    exact ⟨_, fore_mem ltF xs he, eqF_self (hn _ (fore_mem ltF xs he))⟩
  have HEH : Hid (xs ≠ [] → xs.any (fun y => eqF y (foreF gtF xs)) = true) := by
    intro he
    rw [List.any_eq_true]
    exact ⟨_, fore_mem gtF xs he, eqF_self (hn _ (fore_mem gtF xs he))⟩
  have HZ1 : Hid (xs = [] → foreF ltF xs = 0 ∧ foreF gtF xs = 0) := by
    intro he
    subst he
    exact ⟨rfl, rfl⟩
  obtain ⟨ao, cap, rfl, hlen, hcell⟩ := hv
  have HC := hid hcell
  clear hcell hn
  have r1 := run_ltF
  have r2 := run_gtF
  have r3 := run_eqF
  have r4 := run_neF
  have ez := eqF_zero
  generalize foreF ltF xs = lo at *
  generalize foreF gtF xs = hi at *
  by_cases he : xs = []
  · obtain ⟨rfl, rfl⟩ := HZ1.out he
    subst he
    go_enter Try.func12, Try.ntmps12
    go_wp2_with fail
    refine HL1.out.mono ?_
    rintro e w1 ⟨rfl, rfl⟩
    go_wp2_with fail
    refine HM1.out.mono ?_
    rintro e w1 ⟨rfl, rfl⟩
    go_wp2_with fail
    refine wp_loop_rounds 1 ?_
    rw [rounds_succ]
    go_wp2_with fail
    go_ret
    exact ⟨rfl, rfl⟩
  · have hpos : 0 < xs.length := List.length_pos_iff.2 he
    have hd : decide (0 < xs.length) = true := by simpa using hpos
    have hpi : (0 : Int) < (xs.length : Int) := by omega
    rw [hd] at HL1 HM1
    have HEL' := hid (HEL.out he)
    have HEH' := hid (HEH.out he)
    clear HEL HEH HZ1 he hd
    go_enter Try.func12, Try.ntmps12
    go_wp2_with fail
    refine HL1.out.mono ?_
    rintro e w1 ⟨rfl, rfl⟩
    go_wp2_with fail
    refine HM1.out.mono ?_
    rintro e w1 ⟨rfl, rfl⟩
    go_wp2_with fail
    go_loop [7, 8, 9] (fun p q i => ∃ (k : Nat), k ≤ xs.length ∧ i = .int .i64 (k : Int) ∧ p = .bool ((xs.take k).any (fun y => eqF y lo)) ∧ q = .bool ((xs.take k).any (fun y => eqF y hi))) (fun _ _ i => xs.length - (intOf i).toNat)
    case atStart => exact ⟨0, Nat.zero_le _, rfl, rfl, rfl⟩
    case round =>
      obtain ⟨k, hk, rfl, rfl, rfl⟩ := hrel
      by_cases hlt : k < xs.length
      · obtain ⟨b, off, rfl, hck⟩ := HC.out (by intro e; subst e; simp at hlt)
        have t1 : (k : Int) < (xs.length : Int) := by omega
        have hxk := hck k hlt
        have hm : xs.getD k 0 ∈ xs := by simp only [List.getD, List.getElem?_eq_getElem hlt, Option.getD_some]; exact List.getElem_mem hlt
        have g1 := HB1.out _ hm
        have g2 := HB2.out _ hm
        have HL := hid (any_take xs 0 (fun y => eqF y lo) k hlt)
        have HH := hid (any_take xs 0 (fun y => eqF y hi) k hlt)
        generalize xs.getD k 0 = x at *
        generalize (xs.take k).any (fun y => eqF y lo) = p at *
        generalize (xs.take k).any (fun y => eqF y hi) = q at *
        clear hck HEL' HEH' hm HB1 HB2
        cases p <;> cases q
        all_goals (go_wp2_with fail)
        all_goals go_round
        all_goals (first | (case rel => exact ⟨k + 1, by omega, by go_num, by rw [HL.out]; simp, by rw [HH.out]; simp⟩) | skip)
        all_goals (first | (case measure => simp [intOf]; omega) | skip)
      · have t1 : ¬ (k : Int) < (xs.length : Int) := by omega
        have e : xs.take k = xs := List.take_of_length_le (by omega)
        rw [e, HEL'.out, HEH'.out]
        clear e
        go_wp2_with fail
        go_ret
        exact ⟨rfl, rfl⟩
end Go.Proofs.Ytmfkccdlblebjaa
