/- NetAnswers: the walk's books inside a round. -/
import Derived.Test.YtedlpefglgleeabNBk6
import Derived.Test.YtedlpefglgleeabNAnsP
namespace Go.Proofs.Ytedlpefglgleeab
open Go.RowKit

theorem perm_one {α : Type} (a b : α) (K W H : List α) : ((K ++ [a]) ++ (W ++ [b]) ++ H).Perm (b :: a :: (K ++ W ++ H)) := by
  classical exact List.perm_iff_count.2 (fun x => by simp only [List.count_append, List.count_cons, List.count_nil]; omega)
theorem perm_two {α : Type} (a b c d : α) (K W H : List α) : ((K ++ [a, b]) ++ (W ++ [c, d]) ++ H).Perm (d :: c :: b :: a :: (K ++ W ++ H)) := by
  classical exact List.perm_iff_count.2 (fun x => by simp only [List.count_append, List.count_cons, List.count_nil]; omega)
theorem perm_in {α : Type} (q : α) (K W H : List α) : (K ++ W ++ (q :: H)).Perm (q :: (K ++ W ++ H)) := by
  classical exact List.perm_iff_count.2 (fun x => by simp only [List.count_append, List.count_cons]; omega)
structure AI (w W : World) (A : Nat) (s : Np) (O : Nat → Prop) (H : Nat) (P : Nat → Pr) (vK vW : Value) (LK LW LH : List Pr) (n : Nat) : Prop where
  nb : NB w W A s O H (P 1) (P 2) vK vW (LK.map (·.1)) (LW.map (·.1)) (LK ++ LW ++ LH)
  told : LK.map (·.2) = LW.map (·.2)
  short : ∀ p ∈ LW, p.2.length ≤ 1600
  m : ((P 1).1 = .slice none 0 0 ∨ P 1 ∈ LH) ∧ ((P 2).1 = .slice none 0 0 ∨ P 2 ∈ LH)
  n : LK.length = n
section
variable {w W W' : World} {A : Nat} {s s' : Np} {O O' : Nat → Prop} {H : Nat} {P : Nat → Pr} {vK vW vK' vW' : Value} {LK LW LH : List Pr} {i n : Nat}
theorem AI.kn (h : AI w W A s O H P vK vW LK LW LH n) : (LK.map (·.1)).length = n := by rw [List.length_map, h.n]
theorem AI.wn (h : AI w W A s O H P vK vW LK LW LH n) : (LW.map (·.1)).length = n := by
  have := congrArg List.length h.told
  rw [List.length_map, List.length_map, h.n] at this
  rw [List.length_map, ← this]
theorem AR.put {c : Nat} {q : Pr} (h : AR w W A s O H P vK vW LK LW LH i n) (hn : NB w W' A s' O' H (putP P c q 1) (putP P c q 2) vK vW (LK.map (·.1)) (LW.map (·.1)) (q :: (LK ++ LW ++ LH))) (hc : c = 1 ∨ c = 2) : AI w W' A s' O' H (putP P c q) vK vW LK LW (q :: LH) n := by
  refine ⟨hn.perm (perm_in q LK LW LH), h.told, h.short, ?_, h.n⟩
  rcases hc with rfl | rfl
  · exact ⟨Or.inr List.mem_cons_self, h.m.2.imp id (List.mem_cons_of_mem _)⟩
  · exact ⟨h.m.1.imp id (List.mem_cons_of_mem _), Or.inr List.mem_cons_self⟩
theorem AR.lens {c : Nat} {z : List Nat} (h : AR w W A s O H P vK vW LK LW LH i n) (hc : c = 1 ∨ c = 2) (hz : z.length ≤ 100) (v : Value) : (putP P c (v, (P c).2 ++ z) 1).2.length ≤ (i + 1) * 100 ∧ (putP P c (v, (P c).2 ++ z) 2).2.length ≤ (i + 1) * 100 := by
  obtain ⟨h1, h2⟩ := h.pl
  rcases hc with rfl | rfl
  · refine ⟨?_, ?_⟩
    · show ((P 1).2 ++ z).length ≤ _
      rw [List.length_append]; omega
    · show (P 2).2.length ≤ _
      omega
  · refine ⟨?_, ?_⟩
    · show (P 1).2.length ≤ _
      omega
    · show ((P 2).2 ++ z).length ≤ _
      rw [List.length_append]; omega
theorem AI.one (h : AI w W A s O H P vK vW LK LW LH n) {a b : Pr} (hn : NB w W' A s' O' H (P 1) (P 2) vK' vW' (LK.map (·.1) ++ [a.1]) (LW.map (·.1) ++ [b.1]) (b :: a :: (LK ++ LW ++ LH))) (ht : a.2 = b.2) (hs : b.2.length ≤ 1600) : AI w W' A s' O' H P vK' vW' (LK ++ [a]) (LW ++ [b]) LH (n + 1) := by
  refine ⟨?_, by simp [h.told, ht], fun p hp => ?_, h.m, by simp [h.n]⟩
  · rw [List.map_append, List.map_append]
    exact hn.perm (perm_one a b LK LW LH)
  · rcases List.mem_append.1 hp with e | e
    · exact h.short p e
    · rw [List.mem_singleton] at e; subst e; exact hs
theorem AI.two (h : AI w W A s O H P vK vW LK LW LH n) {a b c d : Pr} (hn : NB w W' A s' O' H (P 1) (P 2) vK' vW' (LK.map (·.1) ++ [a.1, b.1]) (LW.map (·.1) ++ [c.1, d.1]) (d :: c :: b :: a :: (LK ++ LW ++ LH))) (ht : a.2 = c.2) (ht2 : b.2 = d.2) (hs : c.2.length ≤ 1600) (hs2 : d.2.length ≤ 1600) : AI w W' A s' O' H P vK' vW' (LK ++ [a, b]) (LW ++ [c, d]) LH (n + 2) := by
  refine ⟨?_, by simp [h.told, ht, ht2], fun p hp => ?_, h.m, by simp [h.n]⟩
  · rw [List.map_append, List.map_append]
    exact hn.perm (perm_two a b c d LK LW LH)
  · rcases List.mem_append.1 hp with e | e
    · exact h.short p e
    · simp only [List.mem_cons, List.not_mem_nil, or_false] at e
      rcases e with rfl | rfl
      · exact hs
      · exact hs2
theorem AI.next (h : AI w W A s O H P vK vW LK LW LH n) (ht : OT s P ((i + 1) * 200)) (hl : (P 1).2.length ≤ (i + 1) * 100 ∧ (P 2).2.length ≤ (i + 1) * 100) : AR w W A s O H P vK vW LK LW LH (i + 1) n :=
  ⟨h.nb, ht, h.told, h.short, hl, h.m, h.n⟩
end
end Go.Proofs.Ytedlpefglgleeab
