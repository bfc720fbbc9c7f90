/- The document's Rows: what is left of the lists, by how far each is read. -/
import Derived.Test.YtilgkfpicdmkkaaMBestP
import Derived.Test.YtilgkfpicdmkkaaMRise
namespace Go.Proofs.Ytilgkfpicdmkkaa.M
open Go.RowKit

/-- What is left of the lists. -/
def FD (ls : List (List Rw)) (d : Nat → Nat) : List (List Rw) := (List.range ls.length).map (fun p => (M.W.gl ls p).drop (d p))
def upd (d : Nat → Nat) (k : Nat) : Nat → Nat := fun p => if p = k then d k + 1 else d p
/-- How far each is read, as numbers. -/
def dI (n : Nat) (d : Nat → Nat) : List Int := (List.range n).map (fun p => ((d p : Nat) : Int))
theorem dI_len (n : Nat) (d : Nat → Nat) : (dI n d).length = n := by simp [dI]
theorem dI_get {n : Nat} {d : Nat → Nat} {i : Nat} (h : i < n) : (dI n d)[i]?.getD default = ((d i : Nat) : Int) := by simp [dI, h]
theorem dI_upd {n : Nat} {d : Nat → Nat} {k : Nat} : (dI n d).set k (((d k : Nat) : Int) + 1) = dI n (upd d k) := by
  apply List.ext_getElem
  · simp [dI]
  · intro i h1 h2
    rw [List.getElem_set]
    simp only [dI, upd, List.getElem_map, List.getElem_range]
    by_cases e : k = i
    · subst e
      simp
    · have e2 : ¬ i = k := fun h => e h.symm
      simp [e, e2]
theorem FD_len (ls : List (List Rw)) (d : Nat → Nat) : (FD ls d).length = ls.length := by simp [FD]
theorem FD_zero (ls : List (List Rw)) : FD ls (fun _ => 0) = ls := by
  apply List.ext_getElem
  · simp [FD]
  · intro i h1 h2
    simp [FD, M.W.gl, h2]
theorem FD_rst {ls : List (List Rw)} {d : Nat → Nat} {p : Nat} (h : p < ls.length) : (rst (FD ls d) p).l = (M.W.gl ls p).drop (d p) := by
  simp [rst, FD, h]
theorem FD_hd {ls : List (List Rw)} {d : Nat → Nat} {p : Nat} (h : p < ls.length) : (rst (FD ls d) p).hd = (M.W.gl ls p)[d p]?.getD default := by
  have e := FD_rst (d := d) h
  unfold R.hd
  rw [e, List.headD_eq_head?_getD, List.head?_drop]
theorem FD_set {ls : List (List Rw)} {d : Nat → Nat} {k : Nat} (h : k < ls.length) : (FD ls d).set k (rst (FD ls d) k).l.tail = FD ls (upd d k) := by
  rw [FD_rst h]
  apply List.ext_getElem
  · simp [FD]
  · intro i h1 h2
    rw [List.getElem_set]
    simp only [FD, upd, List.getElem_map, List.getElem_range]
    by_cases e : k = i
    · subst e
      simp [List.tail_drop]
    · have e2 : ¬ i = k := fun h => e h.symm
      simp [e, e2]
theorem made_rowi (n : Nat) : madeCells #[Value.int .i64 0] n = (I.iv (dI n (fun _ => 0))).toArray := by
  apply Array.ext'
  apply List.ext_getElem
  · simp [madeCells, I.iv, dI]
  · intro i h1 h2
    simp [madeCells, Nat.mod_one, I.iv, dI]
/-- Where a list's slice lies, and its front. -/
theorem ls_hdr {w : World} {sv : Nat → M.W.Sv} {ls : List (List Rw)} {ao : Option Addr} {n c : Nat} (h : M.W.LsAt w sv ls (.slice ao n c)) {p : Nat} (hp : p < ls.length) : ∃ G off, ao = some ⟨G, off, none⟩ ∧ ∃ a cc, w.cell? ⟨G, off + p, none⟩ = some (.slice a (M.W.gl ls p).length cc) ∧ (M.W.gl ls p).length ≤ 9223372036854775807 ∧ ∀ j, j < (M.W.gl ls p).length → ∃ b o, a = some ⟨b, o, none⟩ ∧ M.W.ElAt w b (o + j * 7) ((M.W.gl ls p)[j]?.getD default) := by
  obtain ⟨ao', cap', e, _, hL, h2⟩ := h
  simp only [Value.slice.injEq] at e
  obtain ⟨rfl, _, _⟩ := e
  obtain ⟨G, off, e1, h3⟩ := h2 (by omega)
  obtain ⟨a, cc, h4, h5⟩ := h3 p hp
  obtain ⟨l1, l2, l3⟩ := hL p
  refine ⟨G, off, e1, a, cc, h4, by omega, fun j hj => ?_⟩
  have hne : M.W.gl ls p ≠ [] := fun e => by rw [e] at hj; simp at hj
  have h6 := h5 hne
  unfold M.W.slv at h6
  simp only [Value.slice.injEq, Nat.sub_self, Nat.zero_min, Nat.mul_zero, Nat.add_zero] at h6
  refine ⟨_, _, h6.1, ?_⟩
  have h7 := l3 j hj
  rw [Nat.mul_comm] at h7
  exact h7
end Go.Proofs.Ytilgkfpicdmkkaa.M
