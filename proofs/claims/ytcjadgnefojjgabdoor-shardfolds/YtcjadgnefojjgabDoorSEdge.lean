/- ShardEdges: the law's within, the cell, what is asked for; the walk's first part. -/
import Derived.Test.YtcjadgnefojjgabDoorSHead
import Derived.Deep.OwnRows
namespace Go.Proofs.YtcjadgnefojjgabDoor.S
open Go.RowKit G

theorem within_any (a n : Int) (hn : 0 < n) (hb : n ≤ 1000000) (w : World) : Calls Tryd.prog 6 #[.int .i64 a, .int .i64 n] w fun e w' => e = .returned (.int .i64 (a % n)) ∧ w' = w := by
  have h1 : -n < a.tmod n := Int.lt_tmod_of_pos a hn
  have h2 : a.tmod n < n := Int.tmod_lt_of_pos a hn
  have h3 : ¬ n = 0 := by omega
  have h5 : (n == 0) = false := by simpa using h3
  have h6 : (n == -1) = false := by simp; omega
  have h7 : ¬ n = -1 := by omega
  have h4 : a % n = if a.tmod n < 0 then a.tmod n + n else a.tmod n := by
    have hq := Int.tmod_add_mul_tdiv a n
    generalize a.tmod n = m at *
    generalize a.tdiv n = q at *
    rw [← hq, Int.add_mul_emod_self_left]
    by_cases hm : m < 0
    · rw [if_pos hm, ← Int.add_emod_right]
      exact Int.emod_eq_of_lt (by omega) (by omega)
    · rw [if_neg hm]
      exact Int.emod_eq_of_lt (by omega) h2
  rw [h4]
  clear h4
  generalize hm : a.tmod n = m at *
  by_cases hlt : m < 0
  · rw [if_pos hlt]
    go_enter Tryd.func6, Tryd.ntmps6
    go_wp2_with fail
    go_ret
    exact ⟨rfl, rfl⟩
  · rw [if_neg hlt]
    go_enter Tryd.func6, Tryd.ntmps6
    go_wp2_with fail
    go_ret
    exact ⟨rfl, rfl⟩

end Go.Proofs.YtcjadgnefojjgabDoor.S
