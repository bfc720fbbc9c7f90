/- The document's Lists: what is left of the lists, by how far each is read; what is told twice is left out. -/
import Derived.Test.YtilgkfpicdmkkaaMRRows0
import Derived.Test.YtilgkfpicdmkkaaMOrdP
namespace Go.Proofs.Ytilgkfpicdmkkaa.M
open Go.RowKit

/-- What is left of the lists. -/
def FJ (ls : List (List Int)) (d : Nat → Nat) : List (List Int) := (List.range ls.length).map (fun p => (I.gl ls p).drop (d p))
theorem FJ_len (ls : List (List Int)) (d : Nat → Nat) : (FJ ls d).length = ls.length := by simp [FJ]
theorem FJ_zero (ls : List (List Int)) : FJ ls (fun _ => 0) = ls := by
  apply List.ext_getElem
  · simp [FJ]
  · intro i h1 h2
    simp [FJ, I.gl, h2]
theorem FJ_rst {ls : List (List Int)} {d : Nat → Nat} {p : Nat} (h : p < ls.length) : (rst (FJ ls d) p).l = (I.gl ls p).drop (d p) := by
  simp [rst, FJ, h]
theorem FJ_hd {ls : List (List Int)} {d : Nat → Nat} {p : Nat} (h : p < ls.length) : (rst (FJ ls d) p).hd = (I.gl ls p)[d p]?.getD default := by
  have e := FJ_rst (d := d) h
  unfold R.hd
  rw [e, List.headD_eq_head?_getD, List.head?_drop]
theorem FJ_set {ls : List (List Int)} {d : Nat → Nat} {k : Nat} (h : k < ls.length) : (FJ ls d).set k (rst (FJ ls d) k).l.tail = FJ ls (upd d k) := by
  rw [FJ_rst h]
  apply List.ext_getElem
  · simp [FJ]
  · intro i h1 h2
    rw [List.getElem_set]
    simp only [FJ, upd, List.getElem_map, List.getElem_range]
    by_cases e : k = i
    · subst e
      simp [List.tail_drop]
    · have e2 : ¬ i = k := fun h => e h.symm
      simp [e, e2]
/-- Where a list's slice lies, and its front. -/
theorem lj_hdr {w : World} {sv : Nat → I.Sv} {ls : List (List Int)} {ao : Option Addr} {n c : Nat} (h : I.LsAt w sv ls (.slice ao n c)) {p : Nat} (hp : p < ls.length) : ∃ G off, ao = some ⟨G, off, none⟩ ∧ ∃ a cc, w.cell? ⟨G, off + p, none⟩ = some (.slice a (I.gl ls p).length cc) ∧ (I.gl ls p).length ≤ 9223372036854775807 ∧ ∀ j, j < (I.gl ls p).length → ∃ b o, a = some ⟨b, o, none⟩ ∧ w.cell? ⟨b, o + j, none⟩ = some (.int .i64 ((I.gl ls p)[j]?.getD default)) := by
  obtain ⟨ao', cap', e, _, hL, h2⟩ := h
  simp only [Value.slice.injEq] at e
  obtain ⟨rfl, _, _⟩ := e
  obtain ⟨G, off, e1, h3⟩ := h2 (by omega)
  obtain ⟨a, cc, h4, h5⟩ := h3 p hp
  obtain ⟨l1, l2, l3⟩ := hL p
  refine ⟨G, off, e1, a, cc, h4, by omega, fun j hj => ?_⟩
  have hne : I.gl ls p ≠ [] := fun e => by rw [e] at hj; simp at hj
  have h6 := h5 hne
  unfold I.slv at h6
  simp only [Value.slice.injEq, Nat.sub_self, Nat.zero_min, Nat.mul_zero, Nat.add_zero] at h6
  refine ⟨_, _, h6.1, ?_⟩
  have h7 := l3 j hj
  rw [Nat.one_mul] at h7
  exact h7
theorem ded_mem {a : Int} : ∀ (l : List Int) (out : List Int), a ∈ l.foldl I.dd out → a ∈ out ∨ a ∈ l
  | [], out, h => Or.inl h
  | x :: l, out, h => by
    rcases ded_mem l (I.dd out x) h with h1 | h1
    · unfold I.dd at h1
      split at h1
      · rw [List.mem_append, List.mem_singleton] at h1
        rcases h1 with h1 | h1
        · exact Or.inl h1
        · exact Or.inr (by rw [h1]; simp)
      · exact Or.inl h1
    · exact Or.inr (List.mem_cons_of_mem _ h1)
/-- Of numbers that rise: one is told, if it is not the last one. -/
theorem ded_ne {done : List Int} {x : Int} (h : ∀ a ∈ done, a ≤ x) : I.ded (done ++ [x]) = if I.ded done = [] ∨ (I.ded done).getLast?.getD default ≠ x then I.ded done ++ [x] else I.ded done := by
  rw [I.ded_snoc]
  unfold I.dd
  by_cases h0 : I.ded done = []
  · rw [if_pos (Or.inl h0), if_pos (Or.inl h0)]
  · have hm : (I.ded done).getLast?.getD default ∈ I.ded done := by
      rw [List.getLast?_eq_some_getLast h0]
      exact List.getLast_mem h0
    have hle := (ded_mem done [] hm).elim (fun h => by simp at h) (h _)
    generalize (I.ded done).getLast?.getD default = z at *
    by_cases hz : z = x
    · rw [if_neg (by rintro (h | h); exact h0 h; simp [I.ltE] at h; omega), if_neg (by rintro (h | h); exact h0 h; exact h hz)]
    · rw [if_pos (Or.inr (by simp [I.ltE]; omega)), if_pos (Or.inr hz)]
theorem srt_cm {ls : List (List Int)} (h : ∀ l ∈ ls, l.Pairwise (fun a b => a ≤ b)) : (merged I.cmE ls).Pairwise (fun a b => a ≤ b) := by
  have := merged_sorted I.cmE_cm ls (fun l hl => (h l hl).imp (fun {a b} hab => cmpI_le.2 hab))
  exact this.imp (fun {a b} hab => cmpI_le.1 hab)
/-- What is done is no more than what comes. -/
theorem srt_done {done rest : List Int} {x : Int} (h : (done ++ x :: rest).Pairwise (fun a b => a ≤ b)) : ∀ a ∈ done, a ≤ x := fun a ha => (List.pairwise_append.1 h).2.2 a ha x (by simp)
/-- An append to numbers of one's own behind a place. -/
theorem wpl_eb {W : World} {base : Nat} {ops : Array Oper} {rest : List Oper} {o : Oper} {a : Act} {Q : Exit → Act → World → Prop} (hgd : o.guard = none) (sl x : Operand)
    (ho : o.op = .call { callee := .builtin .append, args := #[sl, x], argTypes := #[36, 36] }) (v : Value) (l : List Int) (hs : a.eval sl = v) (N : Nat) (y : Int) (hx : a.eval x = .slice (some ⟨N, 0, none⟩) 1 1) (hn : l.length ≤ 1000000000) (hb : W.ownsRow base 3 1 v l.length (I.iv l)) (hz : base ≤ W.heap.size) (hy : W.cell? ⟨N, 0, none⟩ = some (.int .i64 y))
    (h : ∀ v' w', w'.ownsRow base 3 1 v' (l ++ [y]).length (I.iv (l ++ [y])) → W.grownBy w' v.ownBlock → wpList Try.prog ops Q rest (a.put o.dst v') w') : wpList Try.prog ops Q (o :: rest) a W := by
  obtain ⟨i0, hi, hz0, hz1, hz2⟩ := M.W.infoP I.Try.info_elI
  refine wpList_append_own_at W hgd sl x 36 ho base 3 i0 (.int .i64 0) 1 8 Try.underlying36 hi hz0 hz1 hz2 rfl (by decide) v l.length (I.iv l) hs hb ⟨N, 0, none⟩ 1 1 [.int .i64 y] hx rfl ?_ (by intro u hu; simp at hu; rw [hu]; rfl) (by unfold maxLen; omega) (by omega) hz ?_
  · intro j u hj
    match j, hj with
    | 0, hj => simp at hj; subst hj; exact hy
  · intro v' w' hown hgr _ hat
    refine h v' w' ?_ hgr
    rw [I.iv_append, List.length_append]
    exact hown
end Go.Proofs.Ytilgkfpicdmkkaa.M
