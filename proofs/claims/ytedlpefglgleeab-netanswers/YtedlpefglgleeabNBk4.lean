/- NetAnswers: what stands in the walk: the net, the rows in hand, their spines, the heard ones. -/
import Derived.Test.YtedlpefglgleeabNBk3
namespace Go.Proofs.Ytedlpefglgleeab
open Go.RowKit

abbrev Pr := Value × List Nat
def Ap (p q : Pr) : Prop := ∀ k, p.1.ownBlock = some k → q.1.ownBlock ≠ some k
theorem Ap.symm {p q : Pr} (h : Ap p q) : Ap q p := fun k hk e => h k e hk
theorem Rw.low {w : World} {lo lo' : Nat} {v : Value} {xs : List Nat} (h : Rw w lo 5 v xs) (hl : lo' ≤ lo) : Rw w lo' 5 v xs := by
  rcases h with h | ⟨h1, ao, b, off, cap, h2, h3, h4, h5, h6⟩
  · exact Or.inl h
  · exact Or.inr ⟨h1, ao, b, off, cap, h2, h3, h4, fun a ha => ⟨Nat.le_trans hl (h5 a ha).1, (h5 a ha).2⟩, h6⟩
structure NB (w W : World) (A : Nat) (s : Np) (O : Nat → Prop) (H : Nat) (p1 p2 : Pr) (vK vW : Value) (SK SW : List Value) (R : List Pr) : Prop where
  net : NO w W A s O
  fr : Fr w W (fun _ => False)
  rows : ∀ p ∈ R, Rw W w.heap.size 5 p.1 p.2
  apart : R.Pairwise Ap
  out : ∀ p ∈ R, ∀ k, p.1.ownBlock = some k → ¬ O k
  sk : W.ownsRow w.heap.size 22 1 vK SK.length SK
  sw : W.ownsRow w.heap.size 22 1 vW SW.length SW
  sp : ∀ b, vK.ownBlock = some b → vW.ownBlock ≠ some b
  so : ∀ b, vK.ownBlock = some b ∨ vW.ownBlock = some b → ¬ O b ∧ b ≠ H
  hb : w.heap.size ≤ H
  hh : W.heap[H]? = some (.cells #[.slice none 0 0, p1.1, p2.1] 22 (0, 0))
  ho : ¬ O H
  m1 : Rw W w.heap.size 5 p1.1 p1.2 ∧ (p1.1 = .slice none 0 0 ∨ p1 ∈ R)
  m2 : Rw W w.heap.size 5 p2.1 p2.2 ∧ (p2.1 = .slice none 0 0 ∨ p2 ∈ R)
section
variable {w W W' : World} {A : Nat} {s s' : Np} {O O' S : Nat → Prop} {H : Nat} {p1 p2 : Pr} {vK vW : Value} {SK SW : List Value} {R R' : List Pr}
theorem NB.gen (h : NB w W A s O H p1 p2 vK vW SK SW R) (hf : Fr W W' S) (hS : ∀ k, S k → O k) (hn : NO w W' A s' O') (ho : Gr W O O') : NB w W' A s' O' H p1 p2 vK vW SK SW R := by
  have hno : ∀ {v : Value} {xs : List Nat}, Rw W w.heap.size 5 v xs → (∀ k, v.ownBlock = some k → ¬ O k) → ∀ k, v.ownBlock = some k → ¬ O' k := fun hr h1 k hk e => by
    rcases ho k e with e | e
    · exact h1 k hk e
    · have := (hr.lt hk).2; omega
  have hm : ∀ {p : Pr}, Rw W w.heap.size 5 p.1 p.2 ∧ (p.1 = .slice none 0 0 ∨ p ∈ R) → Rw W' w.heap.size 5 p.1 p.2 ∧ (p.1 = .slice none 0 0 ∨ p ∈ R) := fun {p} hp => by
    refine ⟨hp.1.fr hf (fun k hk e => ?_), hp.2⟩
    rcases hp.2 with h1 | h1
    · rw [h1] at hk; simp [Value.ownBlock] at hk
    · exact h.out p h1 k hk (hS k e)
  have hHl := lt_of_block h.hh
  refine ⟨hn, h.fr.trans2 hf (fun k hk e => by have := h.net.lo k (hS k e); omega), fun p hp => (h.rows p hp).fr hf (fun k hk e => h.out p hp k hk (hS k e)), h.apart, fun p hp => hno (h.rows p hp) (h.out p hp), own_fr h.sk hf (fun k hk e => (h.so k (Or.inl hk)).1 (hS k e)), own_fr h.sw hf (fun k hk e => (h.so k (Or.inr hk)).1 (hS k e)), h.sp, fun b hb => ⟨fun e => ?_, (h.so b hb).2⟩, h.hb, by rw [hf.block H hHl (fun e => h.ho (hS H e))]; exact h.hh, fun e => ?_, hm h.m1, hm h.m2⟩
  · rcases ho b e with e | e
    · exact (h.so b hb).1 e
    · rcases hb with hb | hb
      · have := (h.sk.lt b hb).2; omega
      · have := (h.sw.lt b hb).2; omega
  · rcases ho H e with e | e
    · exact h.ho e
    · omega
theorem NB.still (h : NB w W A s O H p1 p2 vK vW SK SW R) (hf : Fr W W' (fun _ => False)) : NB w W' A s O H p1 p2 vK vW SK SW R := h.gen hf (fun _ h => h.elim) (h.net.still hf) (Gr.refl W O)
theorem NB.nets (h : NB w W A s O H p1 p2 vK vW SK SW R) (ha : NA w W W' A s' O) : ∃ O', NB w W' A s' O' H p1 p2 vK vW SK SW R := by
  obtain ⟨O', hn, hg, hf⟩ := ha
  exact ⟨O', h.gen hf (fun _ h => h) hn hg⟩
/-- A row more. -/
theorem NB.push {p : Pr} (h : NB w W A s O H p1 p2 vK vW SK SW R) (hR : R'.Perm (p :: R)) (hr : Rw W w.heap.size 5 p.1 p.2) (ho : ∀ k, p.1.ownBlock = some k → ¬ O k) (hne : ∀ q ∈ R, Ap p q) : NB w W A s O H p1 p2 vK vW SK SW R' := by
  have hmem : ∀ q, q ∈ R' → q = p ∨ q ∈ R := fun q hq => by simpa using hR.mem_iff.1 hq
  have hm : ∀ {q : Pr}, Rw W w.heap.size 5 q.1 q.2 ∧ (q.1 = .slice none 0 0 ∨ q ∈ R) → Rw W w.heap.size 5 q.1 q.2 ∧ (q.1 = .slice none 0 0 ∨ q ∈ R') := fun {q} hq => ⟨hq.1, hq.2.imp id (fun e => hR.mem_iff.2 (List.mem_cons_of_mem _ e))⟩
  refine ⟨h.net, h.fr, fun q hq => ?_, ?_, fun q hq => ?_, h.sk, h.sw, h.sp, h.so, h.hb, h.hh, h.ho, hm h.m1, hm h.m2⟩
  · rcases hmem q hq with rfl | e
    · exact hr
    · exact h.rows q e
  · exact (hR.pairwise_iff (fun {a b} => Ap.symm)).2 (List.pairwise_cons.2 ⟨hne, h.apart⟩)
  · rcases hmem q hq with rfl | e
    · exact ho
    · exact h.out q e
theorem NB.takes (h : NB w W A s O H p1 p2 vK vW SK SW R) {v : Value} {xs : List Nat} (ha : TA w W W' A s' O v xs) (hR : R'.Perm ((v, xs) :: R)) : ∃ O', NB w W' A s' O' H p1 p2 vK vW SK SW R' := by
  obtain ⟨O', hn, hg, hf, hr, hv⟩ := ha
  exact ⟨O', (h.gen hf (fun _ h => h) hn hg).push hR hr (fun k hk => (hv k hk).1) (fun q hq k hk e => h.out q hq k e (hv k hk).2)⟩
theorem NB.fresh (h : NB w W A s O H p1 p2 vK vW SK SW R) {v : Value} {xs : List Nat} (hf : Fr W W' (fun _ => False)) (hr : Rw W' W.heap.size 5 v xs) (hR : R'.Perm ((v, xs) :: R)) : NB w W' A s O H p1 p2 vK vW SK SW R' :=
  (h.still hf).push hR (hr.low h.fr.size) (fun k hk e => by have := h.net.lt e; have := (hr.lt hk).1; omega) (fun q hq k hk e => by have := (hr.lt hk).1; have := ((h.rows q hq).lt e).2; omega)
/-- The heard one of the first, or of the second connection is another row now. -/
theorem NB.box1 {p : Pr} (h : NB w W A s O H p1 p2 vK vW SK SW R) (hp : p ∈ R) : NB w (W.setCell ⟨H, 1, none⟩ p.1) A s O H p p2 vK vW SK SW R := by
  have hf : Fr W (W.setCell ⟨H, 1, none⟩ p.1) (fun k => k = H) := (Fr.refl W (fun k => k = H)).setCell (p := ⟨H, 1, none⟩) (fun _ => rfl) _
  have hr : ∀ {v : Value} {xs : List Nat}, Rw W w.heap.size 5 v xs → Rw (W.setCell ⟨H, 1, none⟩ p.1) w.heap.size 5 v xs := fun h1 => h1.fr hf (fun k hk e => h1.ne h.hh (by decide) (by rw [hk, e]))
  exact ⟨h.net.step hf (fun k hk e => h.ho (by rw [← e]; exact hk)), h.fr.trans2 hf (fun k hk e => by have := h.hb; omega), fun q hq => hr (h.rows q hq), h.apart, h.out, own_fr h.sk hf (fun k hk => (h.so k (Or.inl hk)).2), own_fr h.sw hf (fun k hk => (h.so k (Or.inr hk)).2), h.sp, h.so, h.hb, by rw [heap_setCell_same W H 1 _ _ _ h.hh]; rfl, h.ho, ⟨hr (h.rows p hp), Or.inr hp⟩, ⟨hr h.m2.1, h.m2.2⟩⟩
theorem NB.box2 {p : Pr} (h : NB w W A s O H p1 p2 vK vW SK SW R) (hp : p ∈ R) : NB w (W.setCell ⟨H, 2, none⟩ p.1) A s O H p1 p vK vW SK SW R := by
  have hf : Fr W (W.setCell ⟨H, 2, none⟩ p.1) (fun k => k = H) := (Fr.refl W (fun k => k = H)).setCell (p := ⟨H, 2, none⟩) (fun _ => rfl) _
  have hr : ∀ {v : Value} {xs : List Nat}, Rw W w.heap.size 5 v xs → Rw (W.setCell ⟨H, 2, none⟩ p.1) w.heap.size 5 v xs := fun h1 => h1.fr hf (fun k hk e => h1.ne h.hh (by decide) (by rw [hk, e]))
  exact ⟨h.net.step hf (fun k hk e => h.ho (by rw [← e]; exact hk)), h.fr.trans2 hf (fun k hk e => by have := h.hb; omega), fun q hq => hr (h.rows q hq), h.apart, h.out, own_fr h.sk hf (fun k hk => (h.so k (Or.inl hk)).2), own_fr h.sw hf (fun k hk => (h.so k (Or.inr hk)).2), h.sp, h.so, h.hb, by rw [heap_setCell_same W H 2 _ _ _ h.hh]; rfl, h.ho, ⟨hr h.m1.1, h.m1.2⟩, ⟨hr (h.rows p hp), Or.inr hp⟩⟩
/-- The spine of what was told grows. -/
theorem NB.tell {v' : Value} {vs : List Value} {m : Nat} (h : NB w W A s O H p1 p2 vK vW SK SW R) (ho : W'.ownsRow w.heap.size 22 1 v' m (SK ++ vs)) (hm : SK.length + vs.length = m) (hg : W.grownBy W' vK.ownBlock) (hat : v'.ownBlock = vK.ownBlock ∨ v'.ownBlock = some W.heap.size) : NB w W' A s O H p1 p2 v' vW (SK ++ vs) SW R := by
  have hf : Fr W W' (fun k => vK.ownBlock = some k) := (Fr.refl W _).grown hg (fun k _ e => e)
  have hr : ∀ {v : Value} {xs : List Nat}, Rw W w.heap.size 5 v xs → Rw W' w.heap.size 5 v xs := fun h1 => h1.fr hf (fun k hk e => spine_nq h.sk h1 k e hk)
  have hHl := lt_of_block h.hh
  have hx : ∀ b, v'.ownBlock = some b → vK.ownBlock = some b ∨ b = W.heap.size := fun b hb => by
    rcases hat with e | e
    · exact Or.inl (by rw [← e]; exact hb)
    · exact Or.inr (by rw [hb] at e; simpa using e)
  refine ⟨h.net.step hf (fun k hk e => (h.so k (Or.inl e)).1 hk), h.fr.trans2 hf (fun k hk e => by have := (h.sk.lt k e).1; omega), fun q hq => hr (h.rows q hq), h.apart, h.out, by rw [List.length_append, hm]; exact ho, own_fr h.sw hf (fun k hk e => h.sp k e hk), fun b hb e => ?_, fun b hb => ?_, h.hb, by rw [hf.block H hHl (fun e => (h.so H (Or.inl e)).2 rfl)]; exact h.hh, h.ho, ⟨hr h.m1.1, h.m1.2⟩, ⟨hr h.m2.1, h.m2.2⟩⟩
  · rcases hx b hb with e2 | e2
    · exact h.sp b e2 e
    · have := (h.sw.lt b e).2; omega
  · rcases hb with hb | hb
    · rcases hx b hb with e2 | e2
      · exact h.so b (Or.inl e2)
      · exact ⟨fun e => by have := h.net.lt e; omega, by omega⟩
    · exact h.so b (Or.inr hb)
/-- The spine of what is wanted grows. -/
theorem NB.want {v' : Value} {vs : List Value} {m : Nat} (h : NB w W A s O H p1 p2 vK vW SK SW R) (ho : W'.ownsRow w.heap.size 22 1 v' m (SW ++ vs)) (hm : SW.length + vs.length = m) (hg : W.grownBy W' vW.ownBlock) (hat : v'.ownBlock = vW.ownBlock ∨ v'.ownBlock = some W.heap.size) : NB w W' A s O H p1 p2 vK v' SK (SW ++ vs) R := by
  have hf : Fr W W' (fun k => vW.ownBlock = some k) := (Fr.refl W _).grown hg (fun k _ e => e)
  have hr : ∀ {v : Value} {xs : List Nat}, Rw W w.heap.size 5 v xs → Rw W' w.heap.size 5 v xs := fun h1 => h1.fr hf (fun k hk e => spine_nq h.sw h1 k e hk)
  have hHl := lt_of_block h.hh
  have hx : ∀ b, v'.ownBlock = some b → vW.ownBlock = some b ∨ b = W.heap.size := fun b hb => by
    rcases hat with e | e
    · exact Or.inl (by rw [← e]; exact hb)
    · exact Or.inr (by rw [hb] at e; simpa using e)
  refine ⟨h.net.step hf (fun k hk e => (h.so k (Or.inr e)).1 hk), h.fr.trans2 hf (fun k hk e => by have := (h.sw.lt k e).1; omega), fun q hq => hr (h.rows q hq), h.apart, h.out, own_fr h.sk hf (fun k hk e => h.sp k hk e), by rw [List.length_append, hm]; exact ho, fun b hb e => ?_, fun b hb => ?_, h.hb, by rw [hf.block H hHl (fun e => (h.so H (Or.inr e)).2 rfl)]; exact h.hh, h.ho, ⟨hr h.m1.1, h.m1.2⟩, ⟨hr h.m2.1, h.m2.2⟩⟩
  · rcases hx b e with e2 | e2
    · exact h.sp b hb e2
    · have := (h.sk.lt b hb).2; omega
  · rcases hb with hb | hb
    · exact h.so b (Or.inl hb)
    · rcases hx b hb with e2 | e2
      · exact h.so b (Or.inr e2)
      · exact ⟨fun e => by have := h.net.lt e; omega, by omega⟩
end
end Go.Proofs.Ytedlpefglgleeab
