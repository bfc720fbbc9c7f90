/- shard: Kill: a walk. -/
import Derived.Test.YtcjadgnefojjgabDoorSPut2
namespace Go.Proofs.YtcjadgnefojjgabDoor.S
open Go.RowKit G

/-- P704: the error. -/
noncomputable def killErr (V : Vw) (e : Int) (c : Cl) : Int :=
  if mayE c ≠ 0 then mayE c else if e < 1 ∨ 1099511627776 < e then 1 else gone (getV V c) e
noncomputable def killS (V : Vw) (e : Int) (c : Cl) : Vw := if killErr V e c = 0 then setV V c (layL (getV V c) ⟨e, false, a0⟩) else V
/-- The numbers behind a Kill. -/
theorem kill_nums {V : Vw} {c : Cl} {e : Int} (hg : G.Good (getV V c)) (he : 1 ≤ e ∧ e ≤ 1099511627776) (ht : (nw (getV V c)).t = true) :
    (nV (setV V c (layL (getV V c) ⟨e, false, a0⟩)) : Int) = nV V + layN (getV V c) ⟨e, false, a0⟩ ∧ (nT (setV V c (layL (getV V c) ⟨e, false, a0⟩)) : Int) = nT V + -1 ∧ (mxV (setV V c (layL (getV V c) ⟨e, false, a0⟩)) : Int) = max (mxV V : Int) ((layL (getV V c) ⟨e, false, a0⟩).length : Int) ∧ nU (setV V c (layL (getV V c) ⟨e, false, a0⟩)) ≤ nU V := by
  have hx : (⟨e, false, a0⟩ : Vn).ok := ⟨he.1, he.2, by unfold fit4 fits a0; simp, fun _ => rfl⟩
  have h1 := layL_len hg ⟨e, false, a0⟩ hx
  have h2 := setV_nV V c (layL (getV V c) ⟨e, false, a0⟩)
  have h3 := setV_nT V c (layL (getV V c) ⟨e, false, a0⟩)
  have hn : 0 ≤ layN (getV V c) ⟨e, false, a0⟩ ∧ layN (getV V c) ⟨e, false, a0⟩ ≤ 1 := by unfold layN; split <;> omega
  have h4 := setV_mx V c (layL (getV V c) ⟨e, false, a0⟩) (by omega)
  have h5 : th (layL (getV V c) ⟨e, false, a0⟩) = 0 := by unfold th; rw [layL_nw]; rfl
  have h6 : th (getV V c) = 1 := by unfold th; rw [ht]; rfl
  rw [h5, h6] at h3
  have h7 := (getV_nV V c).2
  refine ⟨by omega, by omega, by rw [h4]; omega, ?_⟩
  unfold nU
  omega
theorem ShI.same {w : World} {base S slots B gr : Nat} {ge : Option Nat} {T : Tb} {M : List Ent} (h : ShI w base S slots B gr ge T M) {e : Ent} (he : e ∈ M) {f : Ent} (hf : f ∈ M) (hc : f.c = e.c) : f = e := by
  have hp := h.apart
  rcases List.mem_iff_append.1 he with ⟨l1, l2, rfl⟩
  rw [List.pairwise_append] at hp
  rcases List.mem_append.1 hf with h1 | h1
  · exact absurd hc (hp.2.2 f h1 e (by simp)).1
  · rcases List.mem_cons.1 h1 with rfl | h1
    · rfl
    · exact absurd hc.symm ((List.pairwise_cons.1 hp.2.1).1 f h1).1

end Go.Proofs.YtcjadgnefojjgabDoor.S
