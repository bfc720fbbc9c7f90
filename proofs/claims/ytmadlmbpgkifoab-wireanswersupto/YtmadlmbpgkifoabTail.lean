/- A slice of bytes that is cut from the left, its cells below block N. -/
import Derived.Test.YtmadlmbpgkifoabFnew
namespace Go.Proofs.Ytmadlmbpgkifoab
open Go.RowKit

def Ts (w : World) (N : Nat) (al : Value) (R : List Nat) : Prop :=
  ∃ ao cap, al = .slice ao R.length cap ∧ R.length ≤ cap ∧ (R ≠ [] → ∃ g off, ao = some ⟨g, off, none⟩ ∧ g < N ∧ ∀ j, j < R.length → w.cell? ⟨g, off + j, none⟩ = some (.int .u8 ((R.getD j 0 : Nat) : Int)))

theorem Ts.fr {w w' : World} {N : Nat} {al : Value} {R : List Nat} {S : Nat → Prop} (h : Ts w N al R) (hf : Fr w w' S) (hS : ∀ k, S k → N ≤ k) : Ts w' N al R := by
  obtain ⟨ao, cap, e, hl, h⟩ := h
  refine ⟨ao, cap, e, hl, fun hne => ?_⟩
  obtain ⟨g, off, e1, hg, hc⟩ := h hne
  refine ⟨g, off, e1, hg, fun j hj => ?_⟩
  have hcj := hc j hj
  have hlt := World.block_lt_of_cell? w _ hcj
  rw [World.cell?_of_block (w := w) (a := ⟨g, off + j, none⟩) (hf.block g hlt (fun h => by have := hS g h; omega))]
  exact hcj
theorem Ts.drewN {w : World} {N : Nat} {al : Value} {R : List Nat} (h : Ts w N al R) (n : Nat) : Ts (w.drewN n) N al R := h.fr (S := fun _ => False) ((Fr.refl _ _).drewN n) (fun _ h => h.elim)
theorem Ts.nil (w : World) (N : Nat) (ao : Option Addr) (c : Nat) : Ts w N (.slice ao 0 c) [] := ⟨ao, c, rfl, Nat.zero_le _, fun h => absurd rfl h⟩
theorem Ts.ofOwn {w : World} {base N : Nat} {e : TypeId} {al : Value} {R : List Nat} (h : w.ownsRow base e 1 al R.length (by8 R)) (hN : w.heap.size ≤ N) : Ts w N al R := by
  have h0 := h
  rcases h.2 with ⟨rfl, h1⟩ | ⟨g, cap, cur, rfl, _, hg, hle, _⟩
  · have : R = [] := List.eq_nil_of_length_eq_zero h1
    subst this
    exact Ts.nil _ _ _ _
  · refine ⟨_, cap, rfl, hle, fun _ => ⟨g, 0, rfl, by have := lt_of_block hg; omega, fun j hj => ?_⟩⟩
    have := h0.cells (g := g) rfl j _ (by8_get R j hj)
    rwa [Addr.add_lit] at this
theorem Ts.take {w : World} {N : Nat} {ao : Option Addr} {cap : Nat} {R : List Nat} (h : Ts w N (.slice ao R.length cap) R) (k : Nat) (hk : k ≤ R.length) (hne : R ≠ []) : Bs w (.slice ao k cap) (R.take k) := by
  obtain ⟨ao', cap', e, _, h⟩ := h
  obtain ⟨g, off, e1, _, hc⟩ := h hne
  simp only [Value.slice.injEq] at e
  rw [e.1, e1]
  have hlen : (R.take k).length = k := by simp; omega
  refine Or.inr ⟨⟨g, off, none⟩, cap, by rw [hlen], fun j u hu => ?_⟩
  have hj : j < k := by
    rcases Nat.lt_or_ge j k with h | h
    · exact h
    · rw [List.getElem?_eq_none (by rw [by8_length, hlen]; exact h)] at hu
      cases hu
  rw [Addr.add_lit, hc j (by omega), ← hu, by8_get _ j (by omega)]
  simp [List.getD, hj]
theorem Ts.drop {w : World} {N g off cap : Nat} {R : List Nat} (h : Ts w N (.slice (some ⟨g, off, none⟩) R.length cap) R) (k : Nat) (hk : k < R.length) : Ts w N (.slice (some ⟨g, off + k, none⟩) (R.length - k) (cap - k)) (R.drop k) := by
  obtain ⟨ao', cap', e, hl, h⟩ := h
  have hne : R ≠ [] := by intro e; subst e; simp at hk
  obtain ⟨g', off', e1, hg, hc⟩ := h hne
  simp only [Value.slice.injEq] at e
  rw [e1] at e
  simp only [Option.some.injEq, Addr.mk.injEq] at e
  obtain ⟨⟨rfl, rfl, _⟩, _, rfl⟩ := e
  refine ⟨_, _, by rw [List.length_drop], by rw [List.length_drop]; omega, fun _ => ⟨g, off + k, rfl, hg, fun j hj => ?_⟩⟩
  rw [List.length_drop] at hj
  rw [show off + k + j = off + (k + j) from by omega, hc (k + j) (by omega)]
  simp [List.getD, List.getElem?_drop]
end Go.Proofs.Ytmadlmbpgkifoab
