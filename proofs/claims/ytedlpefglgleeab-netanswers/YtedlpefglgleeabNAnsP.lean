/- NetAnswers: the walk. -/
import Derived.Test.YtedlpefglgleeabNBk5
import Derived.Deep.LoopGhost
import Derived.Deep.DeepMust
import Derived.Deep.RegionHeld3
namespace Go.Proofs.Ytedlpefglgleeab
open Go.RowKit

theorem BsC.loq {w W : World} {v : Value} {xs : List Nat} (h : BsC w v xs) (hf : Fr w W (fun _ => False)) : BsC W v xs := h.fr hf (fun _ h => h.elim)
theorem Row8.keepq {w w' : World} {g : Nat} {xs : List Nat} (h : Row8 w g xs) (he : w'.heap[g]? = w.heap[g]?) : Row8 w' g xs := by unfold Row8; rw [he]; exact h
/-- The walk's books at a round's beginning. -/
structure AR (w W : World) (A : Nat) (s : Np) (O : Nat → Prop) (H : Nat) (P : Nat → Pr) (vK vW : Value) (LK LW LH : List Pr) (i n : Nat) : Prop where
  nb : NB w W A s O H (P 1) (P 2) vK vW (LK.map (·.1)) (LW.map (·.1)) (LK ++ LW ++ LH)
  ot : OT s P (i * 200)
  told : LK.map (·.2) = LW.map (·.2)
  short : ∀ p ∈ LW, p.2.length ≤ 1600
  pl : (P 1).2.length ≤ i * 100 ∧ (P 2).2.length ≤ i * 100
  m : ((P 1).1 = .slice none 0 0 ∨ P 1 ∈ LH) ∧ ((P 2).1 = .slice none 0 0 ∨ P 2 ∈ LH)
  n : LK.length = n
theorem made3 : madeCells #[Value.slice none 0 0] 3 = #[Value.slice none 0 0, Value.slice none 0 0, Value.slice none 0 0] := by
  apply Array.ext'
  rw [toList_madeCells_one]
  rfl
theorem AR.start {w w3 : World} {A : Nat} {s : Np} {O : Nat → Prop} (h1 : NO w w3 A s O) (h2 : Fr w w3 (fun _ => False)) (h3 : OT s (fun _ => (.slice none 0 0, [])) 0) : AR w (w3.alloc (.cells (madeCells #[Value.slice none 0 0] 3) 22)) A s O w3.heap.size (fun _ => (.slice none 0 0, [])) (.slice none 0 0) (.slice none 0 0) [] [] [] 0 0 := by
  have hf := alloc_fr w3 (.cells (madeCells #[Value.slice none 0 0] 3) 22) (fun _ => False)
  exact ⟨⟨h1.still hf, h2.trans hf, fun p hp => by simp at hp, List.Pairwise.nil, fun p hp => by simp at hp, ⟨rfl, Or.inl ⟨rfl, rfl⟩⟩, ⟨rfl, Or.inl ⟨rfl, rfl⟩⟩, fun b hb => by simp [Value.ownBlock] at hb, fun b hb => by simp [Value.ownBlock] at hb, h2.size, (by rw [lastq w3 _ _ rfl, made3]), fun e => by have := h1.lt e; omega, ⟨Rw.nil _ _ _, Or.inl rfl⟩, ⟨Rw.nil _ _ _, Or.inl rfl⟩⟩, h3, rfl, fun p hp => by simp at hp, by simp, ⟨Or.inl rfl, Or.inl rfl⟩, rfl⟩
theorem AR.later {w W : World} {A : Nat} {s : Np} {O : Nat → Prop} {H : Nat} {P : Nat → Pr} {vK vW : Value} {LK LW LH : List Pr} {i j n : Nat} (h : AR w W A s O H P vK vW LK LW LH i n) (hj : i ≤ j) : AR w W A s O H P vK vW LK LW LH j n := by
  obtain ⟨x1, x2, m, a1, a2, a3, a4⟩ := h.ot
  exact ⟨h.nb, ⟨x1, x2, m, a1, a2, by omega, a4⟩, h.told, h.short, ⟨by have := h.pl.1; omega, by have := h.pl.2; omega⟩, h.m, h.n⟩
theorem NO.opens {w W : World} {A : Nat} {s : Np} {O : Nat → Prop} (h : NO w W A s O) (hf : Fr w W (fun _ => False)) (c : Int) : Calls Try.prog 7 #[.pointer (some ⟨A, 0, none⟩), .int .i64 c] W fun e w' => e = .returned (.int .i64 (openE s c)) ∧ ∃ O', NO w w' A (openS s c) O' ∧ Fr w w' (fun _ => False) :=
  (h.open c).mono fun e w' ⟨he, O', h1, h2, h3⟩ => ⟨he, O', h1, hf.trans2 h3 (fun k hk e => by have := h.lo k e; omega)⟩
/-- A block that is none of what stands. -/
def Gf (w : World) (G H : Nat) (vK vW : Value) (R : List Pr) (O : Nat → Prop) : Prop := (∀ p ∈ R, p.1.ownBlock ≠ some G) ∧ vK.ownBlock ≠ some G ∧ vW.ownBlock ≠ some G ∧ H ≠ G ∧ ¬ O G ∧ w.heap.size ≤ G
section
variable {w W W' : World} {A : Nat} {s s' : Np} {O O' S : Nat → Prop} {H G : Nat} {p1 p2 : Pr} {vK vW : Value} {SK SW : List Value} {R R' : List Pr} {zz : List Nat}
theorem NB.lend (h : NB w W A s O H p1 p2 vK vW SK SW R) (hf : Fr W W' (fun _ => False)) (hr : Row8 W' W.heap.size zz) : NB w W' A s O H p1 p2 vK vW SK SW R ∧ Row8 W' W.heap.size zz ∧ Gf w W.heap.size H vK vW R O := by
  have hH := lt_of_block h.hh
  exact ⟨h.still hf, hr, fun p hp e => by have := ((h.rows p hp).lt e).2; omega, fun e => by have := (h.sk.lt _ e).2; omega, fun e => by have := (h.sw.lt _ e).2; omega, by omega, fun e => by have := h.net.lt e; omega, h.fr.size⟩
theorem NB.lent (h : NB w W A s O H p1 p2 vK vW SK SW R) (hr : Row8 W G zz) (hg : Gf w G H vK vW R O) (ha : NA w W W' A s' O) : ∃ O', NB w W' A s' O' H p1 p2 vK vW SK SW R ∧ Row8 W' G zz ∧ Gf w G H vK vW R O' := by
  obtain ⟨O', hn, hgr, hf⟩ := ha
  obtain ⟨g1, g2, g3, g4, g5, g6⟩ := hg
  exact ⟨O', h.gen hf (fun _ h => h) hn hgr, hr.fr hf g5, g1, g2, g3, g4, fun e => by
    rcases hgr G e with e | e
    · exact g5 e
    · have := hr.lt; omega, g6⟩
theorem NB.backs (h : NB w W A s O H p1 p2 vK vW SK SW R) (hg : Gf w G H vK vW R O) (hf : Fr W W' (fun k => k = G)) : NB w W' A s O H p1 p2 vK vW SK SW R := by
  obtain ⟨g1, g2, g3, g4, g5, g6⟩ := hg
  have hm : ∀ {p : Pr}, Rw W w.heap.size 5 p.1 p.2 ∧ (p.1 = .slice none 0 0 ∨ p ∈ R) → Rw W' w.heap.size 5 p.1 p.2 ∧ (p.1 = .slice none 0 0 ∨ p ∈ R) := fun {p} hp => by
    refine ⟨hp.1.fr hf (fun k hk e => ?_), hp.2⟩
    rcases hp.2 with h1 | h1
    · rw [h1] at hk; simp [Value.ownBlock] at hk
    · exact g1 p h1 (by rw [hk, e])
  exact ⟨h.net.step hf (fun k hk e => g5 (by rw [← e]; exact hk)), h.fr.trans2 hf (fun k hk e => by omega), fun p hp => (h.rows p hp).fr hf (fun k hk e => g1 p hp (by rw [hk, e])), h.apart, h.out, own_fr h.sk hf (fun k hk e => g2 (by rw [hk, e])), own_fr h.sw hf (fun k hk e => g3 (by rw [hk, e])), h.sp, h.so, h.hb, by rw [hf.block H (lt_of_block h.hh) g4]; exact h.hh, h.ho, hm h.m1, hm h.m2⟩
end
end Go.Proofs.Ytedlpefglgleeab
