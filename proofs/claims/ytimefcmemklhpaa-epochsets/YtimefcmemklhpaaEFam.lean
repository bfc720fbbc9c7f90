/- Books that stand apart; what a step's box holds; known() is true. -/
import Derived.Test.YtimefcmemklhpaaELaw1
namespace Go.Proofs.Ytimefcmemklhpaa.E
open Go.RowKit Go.Maps Go.MuLone

/-- A block that a book may have: a book's cells, or a map. -/
def KB (W : World) (k : Nat) : Prop := (∃ cs, W.heap[k]? = some (.cells cs 75 (0, 0))) ∨ ∃ es c, W.heap[k]? = some (.map es c)
theorem ow_kb {W : World} {lk : Int} {B : Nat} {m : Nat → Option Nat} {b : Bo} (h : Bk W lk B m b) {k : Nat} (hk : ow B m k) : KB W k := by
  rcases hk with rfl | ⟨i, hi, hk⟩
  · exact Or.inl ⟨_, h.cell⟩
  · obtain ⟨D, ⟨es, c, hc, _⟩, _⟩ := h.ms hi hk
    exact Or.inr ⟨es, c, hc⟩
/-- Another kind of block stays. -/
theorem kb_stay {W W' : World} (hf : Fr W W' (KB W)) {k : Nat} {cs : Array Value} {t : TypeId} {z : Nat × Nat} (h : W.heap[k]? = some (.cells cs t z)) (ht : t ≠ 75) : W'.heap[k]? = some (.cells cs t z) := by
  rw [hf.block k (lt_of_block h) ?_]
  · exact h
  · rintro (⟨cs', h'⟩ | ⟨es, c, h'⟩)
    · rw [h] at h'
      simp only [Option.some.injEq, Obj.cells.injEq] at h'
      exact ht h'.2.1
    · rw [h] at h'
      cases h'
theorem kb_ow {W W' : World} {base : Nat} {v : Value} {l : List Int} (hf : Fr W W' (KB W)) (h : OwI W base v l) : OwI W' base v l := by
  unfold OwI at h ⊢
  obtain ⟨h1, h2⟩ := h
  refine ⟨h1, ?_⟩
  rcases h2 with h2 | ⟨g, cap, cur, e, hb, hg, r⟩
  · exact Or.inl h2
  · exact Or.inr ⟨g, cap, cur, e, hb, kb_stay hf hg (by decide), r⟩

/-- Books that stand apart, all of the call's own. -/
structure Fam (w W : World) (n : Nat) (Bs : Nat → Nat) (M : Nat → Nat → Option Nat) (st : Nat → Bo) : Prop where
  bk : ∀ i, i < n → Bk W 0 (Bs i) (M i) (st i)
  apart : ∀ i j k, i < n → j < n → ow (Bs i) (M i) k → ow (Bs j) (M j) k → i = j
  lo : ∀ i k, i < n → ow (Bs i) (M i) k → w.heap.size ≤ k
  fr : Fr w W (fun _ => False)
def Fm (w W : World) (n : Nat) (Bs : Nat → Nat) (st : Nat → Bo) : Prop := ∃ M, Fam w W n Bs M st
theorem Fm.fr {w W : World} {n : Nat} {Bs : Nat → Nat} {st : Nat → Bo} (h : Fm w W n Bs st) : Fr w W (fun _ => False) := by obtain ⟨M, h⟩ := h; exact h.fr
theorem Fm.step {w W W' : World} {n : Nat} {Bs : Nat → Nat} {st : Nat → Bo} (h : Fm w W n Bs st) (hf : Fr W W' (fun _ => False)) : Fm w W' n Bs st := by
  obtain ⟨M, h⟩ := h
  exact ⟨M, fun i hi => (h.bk i hi).step hf, h.apart, h.lo, h.fr.trans hf⟩
theorem Fm.drew {w W : World} {n : Nat} {Bs : Nat → Nat} {st : Nat → Bo} (h : Fm w W n Bs st) : Fm w W.drew n Bs st := h.step ((Fr.refl _ _).drew)
theorem Fm.none (w : World) (Bs : Nat → Nat) (st : Nat → Bo) : Fm w w 0 Bs st := ⟨fun _ _ => Option.none, fun _ hi => absurd hi (Nat.not_lt_zero _), fun _ _ _ hi => absurd hi (Nat.not_lt_zero _), fun _ _ hi => absurd hi (Nat.not_lt_zero _), Fr.refl _ _⟩
theorem Fm.later {w W : World} {n : Nat} {Bs : Nat → Nat} {st : Nat → Bo} {w0 : World} (h : Fm w W n Bs st) (hf : Fr w0 w (fun _ => False)) : Fm w0 W n Bs st := by
  obtain ⟨M, h⟩ := h
  exact ⟨M, h.bk, h.apart, fun i k hi hk => Nat.le_trans hf.size (h.lo i k hi hk), hf.trans h.fr⟩
/-- A new one. -/
theorem Fm.add {w W W' : World} {n : Nat} {Bs : Nat → Nat} {st : Nat → Bo} (h : Fm w W n Bs st) {B : Nat} {m : Nat → Option Nat} {b : Bo} (hb : Bk W' 0 B m b) (hlo : ∀ k, ow B m k → W.heap.size ≤ k) (hf : Fr W W' (fun _ => False)) : Fm w W' (n + 1) (upd Bs n B) (upd st n b) := by
  obtain ⟨M, h⟩ := h
  refine ⟨upd M n m, fun i hi => ?_, fun i j k hi hj h1 h2 => ?_, fun i k hi hk => ?_, h.fr.trans hf⟩
  · by_cases e : i = n
    · subst e
      rw [upd_same, upd_same, upd_same]
      exact hb
    · rw [upd_other _ _ e, upd_other _ _ e, upd_other _ _ e]
      exact (h.bk i (by omega)).step hf
  · by_cases e : i = n
    · by_cases e' : j = n
      · omega
      · subst e
        rw [upd_same, upd_same] at h1
        rw [upd_other _ _ e', upd_other _ _ e'] at h2
        have := hlo k h1
        have := (h.bk j (by omega)).ow_lt h2
        omega
    · rw [upd_other _ _ e, upd_other _ _ e] at h1
      by_cases e' : j = n
      · subst e'
        rw [upd_same, upd_same] at h2
        have := hlo k h2
        have := (h.bk i (by omega)).ow_lt h1
        omega
      · rw [upd_other _ _ e', upd_other _ _ e'] at h2
        exact h.apart i j k (by omega) (by omega) h1 h2
  · by_cases e : i = n
    · subst e
      rw [upd_same, upd_same] at hk
      exact Nat.le_trans h.fr.size (hlo k hk)
    · rw [upd_other _ _ e, upd_other _ _ e] at hk
      exact h.lo i k (by omega) hk
/-- A call that turns one of them. -/
theorem Fm.run {w W : World} {n : Nat} {Bs : Nat → Nat} {st : Nat → Bo} (h : Fm w W n Bs st) {i : Nat} (hi : i < n) {B : Nat} (hB : Bs i = B) {f : Nat} {args : Array Value} {r : Value} {b' : Bo}
    (hc : ∀ m, Bk W 0 B m (st i) → Calls Try.prog f args W fun x w' => x = .returned r ∧ Lf W w' B m b') :
    Calls Try.prog f args W fun x w' => x = .returned r ∧ Fm w w' n Bs (upd st i b') ∧ Fr W w' (KB W) := by
  subst hB
  obtain ⟨M, h⟩ := h
  refine (hc (M i) (h.bk i hi)).mono ?_
  rintro x w' ⟨hx, m', hb, hf, how⟩
  have lt : ∀ j k, j < n → ow (Bs j) (M j) k → k < W.heap.size := fun j k hj hk => (h.bk j hj).ow_lt hk
  refine ⟨hx, ⟨upd M i m', fun j hj => ?_, fun j l k hj hl h1 h2 => ?_, fun j k hj hk => ?_, ?_⟩, hf.mono (fun k _ hk => ow_kb (h.bk i hi) hk)⟩
  · by_cases e : j = i
    · subst e
      rw [upd_same, upd_same]
      exact hb
    · rw [upd_other _ _ e, upd_other _ _ e]
      exact (h.bk j hj).fr hf (fun k hk hk' => e (h.apart j i k hj hi hk hk'))
  · by_cases e : j = i
    · by_cases e' : l = i
      · omega
      · subst e
        rw [upd_same] at h1
        rw [upd_other _ _ e'] at h2
        rcases how k h1 with h3 | h3
        · exact h.apart j l k hj hl h3 h2
        · have := lt l k hl h2; omega
    · rw [upd_other _ _ e] at h1
      by_cases e' : l = i
      · subst e'
        rw [upd_same] at h2
        rcases how k h2 with h3 | h3
        · exact h.apart j l k hj hl h1 h3
        · have := lt j k hj h1; omega
      · rw [upd_other _ _ e'] at h2
        exact h.apart j l k hj hl h1 h2
  · by_cases e : j = i
    · subst e
      rw [upd_same] at hk
      rcases how k hk with h3 | h3
      · exact h.lo j k hj h3
      · exact Nat.le_trans h.fr.size h3
    · rw [upd_other _ _ e] at hk
      exact h.lo j k hj hk
  · refine h.fr.trans2 hf (fun k hk hk' => ?_)
    have := h.lo i k hi hk'
    omega
/-- A call that only asks one of them. -/
theorem Fm.ask {w W : World} {n : Nat} {Bs : Nat → Nat} {st : Nat → Bo} (h : Fm w W n Bs st) {i : Nat} (hi : i < n) {B : Nat} (hB : Bs i = B) {f : Nat} {args : Array Value} {R : Ending → World → Prop}
    (hc : ∀ m, Bk W 0 B m (st i) → Calls Try.prog f args W R) : Calls Try.prog f args W R := by
  subst hB
  obtain ⟨M, h⟩ := h
  exact hc (M i) (h.bk i hi)

theorem dying_len (b : Bo) : (dyingL b).length = (b.sets 65).length + (b.sets 66).length := by
  unfold dyingL
  rw [List.length_mergeSort, List.length_append]
/-- What known() asks. -/
def s1 : Bo := sealB (newB 2) 1
def s2 : Bo := joinB s1 2 1
def s3 : Bo := relB s2 1 1
def s4 : Bo := relB s3 2 1
def s5 : Bo := joinB s4 1 1
def s6 : Bo := beginB s5
def s7 : Bo := endB s6
theorem k1 : sealN (newB 2) 1 = 1 ∧ sealErr (newB 2) 1 = 0 ∧ joinErr s1 2 1 = 0 ∧ relErr s2 1 1 = 0 ∧ holdsB s3 2 1 = true := by decide +kernel
theorem k2 : liveN s3 = 1 ∧ (s3.sets 65).length + (s3.sets 66).length = 0 ∧ relErr s3 2 1 = 0 ∧ (heldL s4).length = 0 ∧ (s4.sets 65).length + (s4.sets 66).length = 1 := by decide +kernel
theorem k3 : joinErr s4 1 1 = 33 ∧ beginErr s5 = 0 ∧ endN s6 = 1 ∧ endErr s6 = 0 ∧ liveN s7 = 0 ∧ s7.now = 2 := by decide +kernel

end Go.Proofs.Ytimefcmemklhpaa.E
