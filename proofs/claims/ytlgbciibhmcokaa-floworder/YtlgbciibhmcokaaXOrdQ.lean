/- FlowOrder: what a step does to what was put and taken: pure. -/
import Derived.Test.YtlgbciibhmcokaaXInO
import Derived.Test.YtlgbciibhmcokaaXRef6
namespace Go.Proofs.Ytlgbciibhmcokaa
open Go.RowKit

theorem getD_set_all {α : Type} {l : List (List α)} {i : Nat} {y : List α} (P : List α → Prop) (h : ∀ k, P (l.getD k [])) (hy : P y) : ∀ k, P ((l.set i y).getD k []) := by
  intro k
  by_cases hi : i < l.length
  · rw [getD_set_if hi]
    split
    · exact hy
    · exact h k
  · rw [List.set_eq_of_length_le (by omega)]
    exact h k
/-- What was put, what was taken: in order; nothing lost; how much is still to be done. -/
structure Oi (s : Ps) (put : List (List It)) (took : List (List Ms)) (K : Int) (mp mt : Nat) : Prop where
  o : OrdI s put took
  i : Inv s
  e : ∀ i, ∀ x ∈ put.getD i [], errC x = 0
  ph : phi s ≤ K
  lp : ∀ i, (put.getD i []).length ≤ mp
  lt : ∀ j, (took.getD j []).length ≤ mt
theorem Oi.more {s : Ps} {put : List (List It)} {took : List (List Ms)} {K K' : Int} {mp mp' mt mt' : Nat} (h : Oi s put took K mp mt) (hk : K ≤ K') (h1 : mp ≤ mp') (h2 : mt ≤ mt') : Oi s put took K' mp' mt' :=
  ⟨h.o, h.i, h.e, Int.le_trans h.ph hk, fun i => Nat.le_trans (h.lp i) h1, fun i => Nat.le_trans (h.lt i) h2⟩
theorem Oi.new (ns no : Nat) : Oi (newP ns no) (List.replicate ns []) (List.replicate no []) 0 0 0 := by
  refine ⟨OrdI.new ns no, Inv.new ns no, fun i x hx => ?_, by rw [phi_new]; exact Int.le_refl _, fun i => ?_, fun i => ?_⟩
  · rw [rep_getD] at hx; cases hx
  · rw [rep_getD]; exact Nat.le_refl _
  · rw [rep_getD]; exact Nat.le_refl _
theorem putE_err {s : Ps} {i : Int} {x : It} (h : putE s i x = 0) : errC x = 0 := by
  unfold putE at h
  split at h
  · omega
  · by_cases he : errC x = 0
    · exact he
    · rw [if_pos he] at h; exact absurd h he
theorem Oi.put {s : Ps} {put : List (List It)} {took : List (List Ms)} {K : Int} {mp mt : Nat} (h : Oi s put took K mp mt) {n : Nat} {x : It} (he : putE s (n : Int) x = 0) : Oi (putS s (n : Int) x) (put.set n (put.getD n [] ++ [x])) took (K + 17) (mp + 1) mt := by
  refine ⟨h.o.put h.i he, h.i.put _ _, ?_, by rw [phi_put he]; have := h.ph; omega, ?_, h.lt⟩
  · refine getD_set_all (fun l => ∀ x ∈ l, errC x = 0) h.e (fun y hy => ?_)
    rcases List.mem_append.1 hy with hy | hy
    · exact h.e _ _ hy
    · simp at hy; subst hy; exact putE_err he
  · refine getD_set_all (fun l => l.length ≤ mp + 1) (fun k => Nat.le_succ_of_le (h.lp k)) ?_
    rw [List.length_append]
    have := h.lp n
    rw [List.length_singleton]; omega
theorem noput {s : Ps} {i : Int} {x : It} (he : putE s i x ≠ 0) : putS s i x = s := by unfold putS; rw [if_neg he]
theorem notake {s : Ps} {i : Int} (he : (takR s i).2 ≠ 0) : takS s i = s := by
  by_cases h : 0 < lenAt i s.b
  · exact absurd (tak_some h).1 he
  · exact (tak_none h).2
theorem tak_at {s : Ps} {i : Int} (he : (takR s i).2 = 0) : ∃ j : Nat, i = (j : Int) ∧ j < s.b.length ∧ ∃ m L, s.b.getD j [] = m :: L ∧ (takR s i).1 = m := by
  unfold takR at he ⊢
  split at he
  · simp at he
  · rename_i hi
    have hi2 : 0 ≤ i ∧ i < (s.b.length : Int) := Classical.byContradiction hi
    refine ⟨i.toNat, by omega, by omega, ?_⟩
    rw [if_neg hi]
    rcases hL : s.b.getD i.toNat [] with _ | ⟨m, L⟩
    · rw [hL] at he; simp at he
    · exact ⟨m, L, rfl, rfl⟩
theorem Oi.take {s : Ps} {put : List (List It)} {took : List (List Ms)} {K : Int} {mp mt : Nat} (h : Oi s put took K mp mt) {j : Nat} (hj : j < s.b.length) {m : Ms} {L : List Ms} (hq : s.b.getD j [] = m :: L) : Oi (takS s (j : Int)) put (took.set j (took.getD j [] ++ [m])) (K - 1) mp (mt + 1) := by
  refine ⟨h.o.take hj hq, h.i.take _, h.e, by rw [phi_take hj hq]; have := h.ph; omega, h.lp, ?_⟩
  refine getD_set_all (fun l => l.length ≤ mt + 1) (fun k => Nat.le_succ_of_le (h.lt k)) ?_
  rw [List.length_append]
  have := h.lt j
  rw [List.length_singleton]; omega
/-- Pass: it brings one, or it waits. -/
theorem pas_cases {s : Ps} {box : Nat} (hw : Wf s box) (i : Int) : pasS s box i = s ∧ ((firR s i).2.2 ≠ 0 ∨ (firR s i).1 < s.b.length ∧ box ≤ (s.b.getD (firR s i).1 []).length) ∨ ∃ n x L, i = ((n : Nat) : Int) ∧ n < s.q.length ∧ s.q.getD n [] = x :: L ∧ pasS s box i = pasT s n x (tow s n x) := by
  by_cases h : (firR s i).2.2 = 0
  · obtain ⟨n, rfl, hn, x, L, hq, hf⟩ := fir_ok h
    unfold pasS
    rw [if_neg (by simpa using h)]
    by_cases hb : box ≤ (s.b.getD (firR s (n : Int)).1 []).length
    · rw [if_pos hb]
      refine Or.inl ⟨rfl, Or.inr ⟨?_, hb⟩⟩
      rw [hf]
      exact tow_lt hw hn x
    · rw [if_neg hb]
      refine Or.inr ⟨n, x, L, rfl, hn, hq, ?_⟩
      rw [hf, Int.toNat_natCast]
  · refine Or.inl ⟨?_, Or.inl h⟩
    exact (pas_err h).2
theorem Oi.pass {s : Ps} {put : List (List It)} {took : List (List Ms)} {K : Int} {mp mt box : Nat} (h : Oi s put took K mp mt) (hw : Wf s box) (i : Int) : Oi (pasS s box i) put took K mp mt := by
  rcases pas_cases hw i with ⟨e, _⟩ | ⟨n, x, L, rfl, hn, hq, e⟩
  · rw [e]; exact h
  · have hi := h.i.pass box (n : Int)
    rw [e] at hi ⊢
    exact ⟨h.o.pass hw h.i hn hq, hi, h.e, by have h1 := phi_pass hw hn hq; have h2 := h.ph; omega, h.lp, h.lt⟩
/-- Something will be brought or taken in this round: ahead of pass i. -/
def PrA (s : Ps) (K : Int) (i : Nat) : Prop := phi s ≤ K - 1 ∨ (∃ j, j < s.b.length ∧ 0 < (s.b.getD j []).length) ∨ ∃ k, i ≤ k ∧ k < s.q.length ∧ 0 < (s.q.getD k []).length
/-- .. ahead of take j. -/
def PrB (s : Ps) (K : Int) (j : Nat) : Prop := phi s ≤ K - 1 ∨ ∃ k, j ≤ k ∧ k < s.b.length ∧ 0 < (s.b.getD k []).length
theorem PrA.start {s : Ps} {K : Int} (h : empB s = false) : PrA s K 0 := by
  refine Classical.byContradiction (fun hn => ?_)
  unfold PrA at hn
  have hq : ∀ i, i < s.q.length → (s.q.getD i []).length = 0 := fun i hi => Classical.byContradiction (fun h2 => hn (Or.inr (Or.inr ⟨i, Nat.zero_le _, hi, by omega⟩)))
  have hb : ∀ i, i < s.b.length → (s.b.getD i []).length = 0 := fun i hi => Classical.byContradiction (fun h2 => hn (Or.inr (Or.inl ⟨i, hi, by omega⟩)))
  rw [empB_true hq hb] at h
  cases h
theorem PrA.step {s : Ps} {K : Int} {box i : Nat} (h : PrA s K i) (hk : phi s ≤ K) (hw : Wf s box) : PrA (pasS s box (i : Int)) K (i + 1) := by
  rcases pas_cases hw (i : Int) with ⟨e, hc⟩ | ⟨n, x, L, hn', hn, hq, e⟩
  · rw [e]
    rcases hc with hc | ⟨h1, h2⟩
    · rcases h with h | h | ⟨k, h3, h4, h5⟩
      · exact Or.inl h
      · exact Or.inr (Or.inl h)
      · by_cases hik : k = i
        · subst hik
          rcases hL : s.q.getD k [] with _ | ⟨x, L⟩
          · rw [hL] at h5; simp at h5
          · rw [firR_cons h4 hL] at hc; simp at hc
        · exact Or.inr (Or.inr ⟨k, by omega, h4, h5⟩)
    · exact Or.inr (Or.inl ⟨_, h1, by have := hw.bx.1; omega⟩)
  · rw [e]
    exact Or.inl (by have h1 := phi_pass hw hn hq; omega)
theorem PrA.all {s : Ps} {K : Int} {i : Nat} (h : PrA s K i) (hi : s.q.length ≤ i) : PrB s K 0 := by
  rcases h with h | ⟨j, h1, h2⟩ | ⟨k, h1, h2, _⟩
  · exact Or.inl h
  · exact Or.inr ⟨j, Nat.zero_le _, h1, h2⟩
  · omega
theorem PrB.some {s : Ps} {K : Int} {j : Nat} (hk : phi s ≤ K) (hj : j < s.b.length) {m : Ms} {L : List Ms} (hq : s.b.getD j [] = m :: L) : PrB (takS s (j : Int)) K (j + 1) := Or.inl (by rw [phi_take hj hq]; omega)
theorem PrB.none {s : Ps} {K : Int} {j : Nat} (h : PrB s K j) (he : (takR s (j : Int)).2 ≠ 0) : PrB s K (j + 1) := by
  rcases h with h | ⟨k, h1, h2, h3⟩
  · exact Or.inl h
  · by_cases hjk : k = j
    · subst hjk
      exact absurd (tak_some (by rw [lenAt_nat h2]; exact h3)).1 he
    · exact Or.inr ⟨k, by omega, h2, h3⟩
theorem PrB.all {s : Ps} {K : Int} {j : Nat} (h : PrB s K j) (hj : s.b.length ≤ j) : phi s ≤ K - 1 := by
  rcases h with h | ⟨k, h1, h2, _⟩
  · exact h
  · omega
theorem emp_all {s : Ps} (h : empB s = true) : (∀ i, i < s.q.length → (s.q.getD i []).length = 0) ∧ ∀ i, i < s.b.length → (s.b.getD i []).length = 0 := by
  refine ⟨fun i hi => ?_, fun i hi => ?_⟩
  · refine Classical.byContradiction (fun h2 => ?_)
    rw [empB_q hi (by omega)] at h; cases h
  · refine Classical.byContradiction (fun h2 => ?_)
    rw [empB_b hi (by omega)] at h; cases h
/-- At the end: what operator j took of source i is what was put there for it. -/
theorem Oi.end {s : Ps} {put : List (List It)} {took : List (List Ms)} {K : Int} {mp mt : Nat} (h : Oi s put took K mp mt) (he : empB s = true) {i j : Nat} (hi : i < s.q.length) (hj : j < s.b.length) : (put.getD i []).filter (mine s.b.length j) = fromI i (took.getD j []) :=
  h.o.done hi hj ((emp_all he).1 i hi) ((emp_all he).2 j hj)
end Go.Proofs.Ytlgbciibhmcokaa
