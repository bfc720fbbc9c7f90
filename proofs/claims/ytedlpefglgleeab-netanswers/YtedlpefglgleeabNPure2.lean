/- net: what each call leaves is right again. Nothing of the program is used here. -/
import Derived.Test.YtedlpefglgleeabNPure
namespace Go.Proofs.Ytedlpefglgleeab
open Go.RowKit

theorem wf_new {a b : Nat} (ha : 1 ≤ a ∧ a ≤ 131072) (hb : 1 ≤ b ∧ b ≤ 131072) : Wf (np0 a b) := ⟨ha, hb, fun c x h => by cases h⟩
theorem wf_upd {s : Np} {c : Int} {y : Cp} {k : Nat} (h : Wf s) (hy : y.i.length ≤ s.a ∧ y.w.length ≤ 1048576 ∧ y.o.length ≤ s.b ∧ y.h.length ≤ s.m + k ∧ (y.shut = true → y.i = [] ∧ y.w = []) ∧ (y.ct = true → y.o = [])) : Wf (s.upd c y k) := by
  refine ⟨h.a, h.b, fun d x hx => ?_⟩
  change (if d = c.toNat then some y else s.c d) = some x at hx
  split at hx
  · cases hx
    exact hy
  · obtain ⟨h1, h2, h3, h4, h5⟩ := h.c d x hx
    exact ⟨h1, h2, h3, Nat.le_trans h4 (Nat.le_add_right _ _), h5⟩
theorem at_some {s : Np} {c : Int} {x : Cp} (h : s.at c = some x) : isC c = true ∧ s.c c.toNat = some x := by
  unfold Np.at at h
  cases hc : isC c with
  | true => rw [hc] at h; exact ⟨rfl, h⟩
  | false => rw [hc] at h; cases h
theorem wf_at {s : Np} (h : Wf s) {c : Int} {x : Cp} (hx : s.at c = some x) : x.i.length ≤ s.a ∧ x.w.length ≤ 1048576 ∧ x.o.length ≤ s.b ∧ x.h.length ≤ s.m ∧ (x.shut = true → x.i = [] ∧ x.w = []) ∧ (x.ct = true → x.o = []) := h.c _ _ (at_some hx).2
theorem wf_open {s : Np} (h : Wf s) (c : Int) : Wf (openS s c) := by
  unfold openS
  split
  · exact wf_upd h ⟨by simp [cp0], by simp [cp0], by simp [cp0], by simp [cp0], fun _ => ⟨rfl, rfl⟩, fun _ => rfl⟩
  · exact h
theorem wf_send {s : Np} (h : Wf s) (c : Int) (b : List Nat) : Wf (sendS s c b) := by
  unfold sendS
  cases hx : s.at c with
  | none => exact h
  | some x =>
    obtain ⟨h1, h2, h3, h4, h5, h6⟩ := wf_at h hx
    dsimp only
    by_cases hs : x.shut = true
    · rw [if_pos hs]; exact h
    · rw [if_neg hs]
      by_cases hl : 1048576 < x.w.length + b.length
      · rw [if_pos hl]; exact h
      · rw [if_neg hl]
        exact wf_upd h ⟨h1, by rw [List.length_append]; omega, h3, by omega, fun e => absurd e hs, h6⟩
theorem wf_bring {s : Np} (h : Wf s) (c most : Int) : Wf (bringS s c most) := by
  unfold bringS
  cases hx : s.at c with
  | none => exact h
  | some x =>
    obtain ⟨h1, h2, h3, h4, h5, h6⟩ := wf_at h hx
    have hk : bringK s c most ≤ x.w.length ∧ bringK s c most ≤ s.a - x.i.length := by
      unfold bringK partN
      rw [hx]
      dsimp only
      omega
    generalize bringK s c most = k at *
    refine wf_upd h ⟨?_, ?_, h3, by show x.h.length ≤ _; omega, fun e => ?_, h6⟩
    · show (x.i ++ x.w.take k).length ≤ _
      rw [List.length_append, List.length_take]; omega
    · show (x.w.drop k).length ≤ _
      rw [List.length_drop]; omega
    · obtain ⟨e1, e2⟩ := h5 e
      show x.i ++ x.w.take k = [] ∧ x.w.drop k = []
      rw [e1, e2]
      simp
theorem wf_take {s : Np} (h : Wf s) (c : Int) : Wf (takeS s c) := by
  unfold takeS
  cases hx : s.at c with
  | none => exact h
  | some x =>
    obtain ⟨h1, h2, h3, h4, h5, h6⟩ := wf_at h hx
    dsimp only
    by_cases hs : x.shut = true
    · rw [if_pos hs]; exact h
    · rw [if_neg hs]
      exact wf_upd h ⟨by simp, h2, h3, by omega, fun e => absurd e hs, h6⟩
theorem wf_write {s : Np} (h : Wf s) (c : Int) (b : List Nat) : Wf (writeS s c b) := by
  unfold writeS
  cases hx : s.at c with
  | none => exact h
  | some x =>
    obtain ⟨h1, h2, h3, h4, h5, h6⟩ := wf_at h hx
    dsimp only
    by_cases hs : x.shut = true
    · rw [if_pos hs]; exact h
    · rw [if_neg hs]
      have hk : writeK s c b.length ≤ s.b - x.o.length := by
        unfold writeK
        rw [hx]
        dsimp only
        rw [if_neg hs]
        omega
      refine wf_upd h ⟨h1, h2, ?_, by omega, fun e => absurd e hs, fun e => ?_⟩
      · show (x.o ++ b.take (writeK s c b.length)).length ≤ _
        rw [List.length_append, List.length_take]; omega
      · exact absurd (show x.shut = true by unfold Cp.shut; rw [show x.ct = true from e]; simp) hs
theorem wf_fetch {s : Np} (h : Wf s) (c most : Int) : Wf (fetchS s c most) := by
  unfold fetchS
  cases hx : s.at c with
  | none => exact h
  | some x =>
    obtain ⟨h1, h2, h3, h4, h5, h6⟩ := wf_at h hx
    dsimp only
    have hk : fetchK s c most ≤ x.o.length := by
      unfold fetchK
      rw [hx]
      dsimp only
      omega
    generalize fetchK s c most = k at *
    refine wf_upd h ⟨h1, h2, ?_, ?_, h5, fun e => ?_⟩
    · show (x.o.drop k).length ≤ _
      rw [List.length_drop]; omega
    · show (x.h ++ x.o.take k).length ≤ _
      rw [List.length_append, List.length_take]; omega
    · show x.o.drop k = []
      rw [h6 e]; simp
theorem wf_close {s : Np} (h : Wf s) (c : Int) : Wf (closeS s c) := by
  unfold closeS
  cases hx : s.at c with
  | none => exact h
  | some x =>
    obtain ⟨h1, h2, h3, h4, h5, h6⟩ := wf_at h hx
    dsimp only
    by_cases hs : x.shut = true
    · rw [if_pos hs]; exact h
    · rw [if_neg hs]
      exact wf_upd h ⟨by simp, by simp, h3, by omega, fun _ => ⟨rfl, rfl⟩, h6⟩
theorem wf_cut {s : Np} (h : Wf s) (c : Int) : Wf (cutS s c) := by
  unfold cutS
  cases hx : s.at c with
  | none => exact h
  | some x =>
    obtain ⟨h1, h2, h3, h4, h5, h6⟩ := wf_at h hx
    dsimp only
    by_cases hs : x.ct = true
    · rw [if_pos hs]; exact h
    · rw [if_neg hs]
      exact wf_upd h ⟨by simp, by simp, by simp, by omega, fun _ => ⟨rfl, rfl⟩, fun _ => rfl⟩
end Go.Proofs.Ytedlpefglgleeab
