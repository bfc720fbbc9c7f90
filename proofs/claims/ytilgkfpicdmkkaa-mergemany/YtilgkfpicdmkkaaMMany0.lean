/- MergeMany: slices of slices as arguments; rows of one's own that are cut short. Written by wip/gen/genmany.py. -/
import Derived.Test.YtilgkfpicdmkkaaMRLists
import Derived.Test.YtilgkfpicdmkkaaMRArgs
namespace Go.Proofs.Ytilgkfpicdmkkaa.M
open Go.RowKit

/-- A row of one's own, cut short. -/
theorem own_cut {w : World} {base : Nat} {e : TypeId} {size : Nat} {v : Value} {n : Nat} {xs : List Value} (h : w.ownsRow base e size v n xs) {k : Nat} (hk : k < n) : ∃ g c, v = .slice (some ⟨g, 0, none⟩) n c ∧ n ≤ c ∧ c ≤ 9223372036854775807 ∧ w.ownsRow base e size (.slice (some ⟨g, 0, none⟩) k c) k (xs.take (k * size)) := by
  have hl := h.1
  rcases h.2 with ⟨_, h0⟩ | ⟨g, cap, cur, rfl, hb, hg, hn, hm, hcs, htake⟩
  · omega
  · have hm' := hm
    unfold maxLen at hm'
    have hkn : k * size ≤ n * size := Nat.mul_le_mul_right size (by omega)
    refine ⟨g, cap, rfl, hn, by omega, by rw [List.length_take, hl]; omega, Or.inr ⟨g, cap, cur, rfl, hb, hg, by omega, hm, hcs, ?_⟩⟩
    rw [← htake, List.take_take, Nat.min_eq_left hkn]
theorem rc_cut (L : List Rw) (k : Nat) : rc (L.take k) = (rc L).take (k * 7) := by
  induction L generalizing k with
  | nil => simp [rc]
  | cons x L ih =>
    cases k with
    | zero => simp [rc]
    | succ k =>
      have e1 : rc (x :: L) = rc [x] ++ rc L := by rw [← rc_append]; rfl
      have e2 : rc (x :: L.take k) = rc [x] ++ rc (L.take k) := by rw [← rc_append]; rfl
      have e3 : (rc [x]).length = 7 := by rw [rc_length]; rfl
      rw [List.take_succ_cons, e1, e2, ih, List.take_append, e3, List.take_of_length_le (l := rc [x]) (by omega), show (k + 1) * 7 - 7 = k * 7 by omega]
theorem iv_take (L : List Int) (k : Nat) : I.iv (L.take k) = (I.iv L).take (k * 1) := by
  unfold I.iv
  rw [List.map_take, Nat.mul_one]
/-- Lists of rows that can be read. -/
def RdRs (w : World) (v : Value) (LL : List (List Rw)) : Prop := ∃ ao cap, v = .slice ao LL.length cap ∧ LL.length ≤ 9223372036854775807 ∧ (0 < LL.length → ∃ b o, ao = some ⟨b, o, none⟩ ∧ ∀ i, i < LL.length → ∃ u, w.cell? ⟨b, o + i, none⟩ = some u ∧ RdR w u (LL[i]?.getD []))
/-- Lists of numbers that can be read. -/
def RdIs (w : World) (v : Value) (LL : List (List Int)) : Prop := ∃ ao cap, v = .slice ao LL.length cap ∧ LL.length ≤ 9223372036854775807 ∧ (0 < LL.length → ∃ b o, ao = some ⟨b, o, none⟩ ∧ ∀ i, i < LL.length → ∃ u, w.cell? ⟨b, o + i, none⟩ = some u ∧ RdI w u (LL[i]?.getD []))
theorem tot_snoc {T : Type} (ls : List (List T)) (l : List T) : tot (ls ++ [l]) = tot ls + l.length := by rw [tot_append]; simp [tot]
theorem merged_takelen (ls : List (List Rw)) (k : Nat) : ((merged M.W.cmE ls).take k).length ≤ tot ls := by
  rw [List.length_take, merged_len M.W.cmE_cm]
  omega
theorem ded_totlen (ls : List (List Int)) : (I.ded (merged I.cmE ls)).length ≤ tot ls := by
  have := I.ded_len (merged I.cmE ls)
  rw [merged_len I.cmE_cm] at this
  exact this
end Go.Proofs.Ytilgkfpicdmkkaa.M
