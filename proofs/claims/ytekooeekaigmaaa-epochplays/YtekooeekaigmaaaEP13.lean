/- Both books side by side; told: the walk. -/
import Derived.Test.YtekooeekaigmaaaEP12
import Derived.Test.YtekooeekaigmaaaELives1
namespace Go.Proofs.Ytekooeekaigmaaa.E
open Go.RowKit Go.Maps Go.MuLone

/-- Both books, and a step's box. -/
def Pr (w W : World) (B C S I base N : Nat) (s : Stp) (bP bR : Bo) (dR : List Int) : Prop :=
  (∃ m, Bk W 0 B m bP ∧ ∀ k, ow B m k → w.heap.size ≤ k) ∧ (∃ sv vD vW, Rb W C S I base sv vD vW bR dR) ∧ Bl W N s ∧ (w.heap.size ≤ C ∧ w.heap.size ≤ S ∧ w.heap.size ≤ I) ∧ Fr w W (fun _ => False)
section
variable {w W : World} {B C S I base N : Nat} {s : Stp} {bP bR : Bo} {dR : List Int}
theorem Pr.step {W' : World} (h : Pr w W B C S I base N s bP bR dR) (hf : Fr W W' (fun _ => False)) : Pr w W' B C S I base N s bP bR dR := by
  obtain ⟨⟨m, h1, h2⟩, ⟨sv, vD, vW, h3⟩, h4, h5, h6⟩ := h
  exact ⟨⟨m, h1.step hf, h2⟩, ⟨sv, vD, vW, h3.step hf⟩, h4.step hf, h5, h6.trans hf⟩
theorem Pr.drew (h : Pr w W B C S I base N s bP bR dR) : Pr w W.drew B C S I base N s bP bR dR := h.step ((Fr.refl _ _).drew)
theorem Pr.runP (h : Pr w W B C S I base N s bP bR dR) {fn : Nat} {args : Array Value} {r : Value} {b' : Bo} (hc : ∀ m, Bk W 0 B m bP → Calls Try.prog fn args W fun x w' => x = .returned r ∧ Lf W w' B m b') :
    Calls Try.prog fn args W fun x w' => x = .returned r ∧ Pr w w' B C S I base N s b' bR dR := by
  obtain ⟨⟨m, h1, h2⟩, ⟨sv, vD, vW, h3⟩, h4, h5, h6⟩ := h
  refine (hc m h1).mono ?_
  rintro x w' ⟨hx, m', hb, hf, how⟩
  have hk : Fr W w' (KB W) := hf.mono (fun k _ hk => ow_kb h1 hk)
  refine ⟨hx, ⟨m', hb, fun k hk => ?_⟩, ⟨sv, vD, vW, h3.kb hk⟩, h4.kb hk, h5, h6.trans2 hf (fun k hk e => by have := h2 k e; omega)⟩
  rcases how k hk with h | h
  · exact h2 k h
  · exact Nat.le_trans h6.size h
theorem Pr.runR (h : Pr w W B C S I base N s bP bR dR) {fn : Nat} {args : Array Value} {r : Value} {b' : Bo} {d' : List Int} (hc : ∀ sv vD vW, Rb W C S I base sv vD vW bR dR → Calls Try.prog fn args W fun x w' => x = .returned r ∧ Rl W w' C S I base b' d') :
    Calls Try.prog fn args W fun x w' => x = .returned r ∧ Pr w w' B C S I base N s bP b' d' := by
  obtain ⟨⟨m, h1, h2⟩, ⟨sv, vD, vW, h3⟩, h4, h5, h6⟩ := h
  refine (hc sv vD vW h3).mono ?_
  rintro x w' ⟨hx, hr, hf⟩
  have hS : ∀ k, ow B m k → ¬ RS C S I k := by
    intro k hk e
    rcases ow_kb h1 hk with ⟨cs, hq⟩ | ⟨es, c, hq⟩
    · rcases e with e | e | e
      · subst e; rw [h3.cell] at hq; simp only [Option.some.injEq, Obj.cells.injEq] at hq; exact absurd hq.2.1 (by decide)
      · subst e; rw [h3.sc] at hq; simp only [Option.some.injEq, Obj.cells.injEq] at hq; exact absurd hq.2.1 (by decide)
      · subst e; rw [h3.ic] at hq; simp only [Option.some.injEq, Obj.cells.injEq] at hq; exact absurd hq.2.1 (by decide)
    · rcases e with e | e | e
      · subst e; rw [h3.cell] at hq; cases hq
      · subst e; rw [h3.sc] at hq; cases hq
      · subst e; rw [h3.ic] at hq; cases hq
  have hN : ¬ RS C S I N := by
    have h4' : W.heap[N]? = _ := h4
    intro e
    rcases e with e | e | e
    · subst e; rw [h3.cell] at h4'; simp only [Option.some.injEq, Obj.cells.injEq] at h4'; exact absurd h4'.2.1 (by decide)
    · subst e; rw [h3.sc] at h4'; simp only [Option.some.injEq, Obj.cells.injEq] at h4'; exact absurd h4'.2.1 (by decide)
    · subst e; rw [h3.ic] at h4'; simp only [Option.some.injEq, Obj.cells.injEq] at h4'; exact absurd h4'.2.1 (by decide)
  exact ⟨hx, ⟨m, h1.fr hf hS, h2⟩, hr, (hf.block N h4.lt hN).trans h4, h5, h6.trans2 hf (fun k hk e => by rcases e with e | e | e <;> omega)⟩
/-- Both books are one. -/
def Pm (w W : World) (B C S I base : Nat) (b : Bo) : Prop := (∃ m, Bk W 0 B m b ∧ ∀ k, ow B m k → w.heap.size ≤ k) ∧ (∃ sv vD vW, Rb W C S I base sv vD vW b (dyingL b)) ∧ (w.heap.size ≤ C ∧ w.heap.size ≤ S ∧ w.heap.size ≤ I) ∧ Fr w W (fun _ => False) ∧ Jb b
theorem Pr.pm {b : Bo} (h : Pr w W B C S I base N s b b (dyingL b)) (j : Jb b) : Pm w W B C S I base b := ⟨h.1, h.2.1, h.2.2.2.1, h.2.2.2.2, j⟩
theorem Pr.swap {b b' : Bo} {d' : List Int} (h : Pr w W B C S I base N s bP b dR) (hp : b'.pins = b.pins) (hn : b'.now = b.now) (hb : b'.begun = b.begun) (hi : b'.inn = b.inn) (hs : ∀ i, i ≠ 65 → b'.sets i = b.sets i) (hd : dR = d') : Pr w W B C S I base N s bP b' d' := by
  subst hd
  obtain ⟨h1, ⟨sv, vD, vW, h3⟩, h4⟩ := h
  exact ⟨h1, ⟨sv, vD, vW, h3.same hp hn hb hi hs⟩, h4⟩
theorem die_len {b : Bo} (hw : Wf b) (j : Jb b) : (dyingL b).length ≤ 4398046510000 := by
  have := dying_len' hw j
  have := hw.now
  omega
end
end Go.Proofs.Ytekooeekaigmaaa.E
