/- EpochOwn: four lists that were told, in a slice of slices. -/
import Derived.Test.YtekooeekaigmaaaEAlike
namespace Go.Proofs.Ytekooeekaigmaaa.E
open Go.RowKit Go.Maps Go.MuLone

/-- Two books, and four lists apart in a slice of four. -/
structure EO (w W : World) (Bs : Nat → Nat) (st : Nat → Bo) (base P : Nat) (V : Nat → Value) (R : Nat → List Int) : Prop where
  fm : Fm w W 2 Bs st
  sp : W.heap[P]? = some (.cells #[V 0, V 1, V 2, V 3] 38 (0, 0))
  ow : ∀ k, k < 4 → OwI W base (V k) (R k)
  ap : ∀ k k' x, k < 4 → k' < 4 → (V k).ownBlock = some x → (V k').ownBlock = some x → k = k'
  lo : w.heap.size ≤ base ∧ base ≤ P ∧ base ≤ W.heap.size
  ln : ∀ k, k < 4 → (R k).length ≤ 4398046511103
theorem spine_get {W : World} {P : Nat} {V : Nat → Value} {t : TypeId} (h : W.heap[P]? = some (.cells #[V 0, V 1, V 2, V 3] t (0, 0))) {k : Nat} (hk : k < 4) : W.cell? ⟨P, k, none⟩ = some (V k) := by
  rw [cell_of_row W P k _ _ (0, 0) h]
  rcases (show k = 0 ∨ k = 1 ∨ k = 2 ∨ k = 3 by omega) with rfl | rfl | rfl | rfl <;> rfl
theorem row_kind {W : World} {base : Nat} {v : Value} {l : List Int} (h : OwI W base v l) {x : Nat} (hx : v.ownBlock = some x) : ∃ cs, W.heap[x]? = some (.cells cs 3 (0, 0)) := by
  rcases h.2 with ⟨rfl, _⟩ | ⟨g, cap, cur, rfl, _, hg, _⟩
  · simp [Value.ownBlock] at hx
  · have : g = x := by simpa [Value.ownBlock] using hx
    subst this
    exact ⟨_, hg⟩
/-- A block of numbers, or of slices, is none of a book's. -/
theorem Fm.other {w W W' : World} {n : Nat} {Bs : Nat → Nat} {st : Nat → Bo} (h : Fm w W n Bs st) {x : Nat} {cs : Array Value} {t : TypeId} {z : Nat × Nat} (hx : W.heap[x]? = some (.cells cs t z)) (ht : t ≠ 75) (hf : Fr W W' (fun k => k = x)) (hlo : w.heap.size ≤ x) : Fm w W' n Bs st := by
  obtain ⟨M, h⟩ := h
  have key : ∀ i k, i < n → ow (Bs i) (M i) k → k ≠ x := by
    rintro i k hi hk rfl
    rcases ow_kb (h.bk i hi) hk with ⟨cs', h'⟩ | ⟨es, c, h'⟩
    · rw [hx] at h'
      simp only [Option.some.injEq, Obj.cells.injEq] at h'
      exact ht h'.2.1
    · rw [hx] at h'
      cases h'
  exact ⟨M, fun i hi => (h.bk i hi).fr hf (fun k hk e => key i k hi hk e), h.apart, h.lo, h.fr.trans2 hf (fun k hk e => by omega)⟩
theorem EO.fr {w W : World} {Bs : Nat → Nat} {st : Nat → Bo} {base P : Nat} {V : Nat → Value} {R : Nat → List Int} (h : EO w W Bs st base P V R) : Fr w W (fun _ => False) := h.fm.fr
theorem EO.step {w W W' : World} {Bs : Nat → Nat} {st : Nat → Bo} {base P : Nat} {V : Nat → Value} {R : Nat → List Int} (h : EO w W Bs st base P V R) (hf : Fr W W' (fun _ => False)) : EO w W' Bs st base P V R :=
  ⟨h.fm.step hf, (hf.block P (lt_of_block h.sp) (fun h => h)).trans h.sp, fun k hk => (h.ow k hk).fr hf (fun _ _ h => h), h.ap, ⟨h.lo.1, h.lo.2.1, Nat.le_trans h.lo.2.2 hf.size⟩, h.ln⟩
/-- A number is written. -/
theorem EO.put {w W : World} {Bs : Nat → Nat} {st : Nat → Bo} {base P : Nat} {V : Nat → Value} {R : Nat → List Int} (h : EO w W Bs st base P V R) {k n g cap : Nat} (hk : k < 4) (hv : V k = .slice (some ⟨g, 0, none⟩) (R k).length cap) (hn : n < (R k).length) (x : Int) :
    EO w (W.setCell ⟨g, n, none⟩ (.int .i64 x)) Bs st base P V (upd R k ((R k).set n x)) := by
  have hf : Fr W (W.setCell ⟨g, n, none⟩ (.int .i64 x)) (fun j => j = g) := fr_poke _ _ _ _
  have hg : (V k).ownBlock = some g := by rw [hv]; rfl
  obtain ⟨cs, hcs⟩ := row_kind (h.ow k hk) hg
  have hlo := (World.ownsRow.lt (h.ow k hk) g hg).1
  have hPg : P ≠ g := by
    rintro rfl
    have := h.sp
    rw [hcs] at this
    simp at this
  refine ⟨h.fm.other hcs (by decide) hf (Nat.le_trans h.lo.1 hlo), ?_, fun j hj => ?_, h.ap, ⟨h.lo.1, h.lo.2.1, by simpa [World.setCell] using h.lo.2.2⟩, fun j hj => ?_⟩
  · rw [hf.block P (lt_of_block h.sp) hPg]
    exact h.sp
  · by_cases e : j = k
    · subst e
      rw [upd_same]
      have ho := h.ow j hj
      rcases ho.2 with ⟨hv', _⟩ | ⟨g', cap', cur, hv', hb, hgg, r1, r2, r3, r4⟩
      · rw [hv] at hv'
        simp at hv'
      · rw [hv] at hv'
        simp only [Value.slice.injEq, Option.some.injEq, Addr.mk.injEq, and_true, true_and] at hv'
        obtain ⟨rfl, rfl⟩ := hv'
        refine ⟨by simp [zv], Or.inr ⟨g, cap, cur.setIfInBounds n (.int .i64 x), by rw [hv]; simp, hb, heap_setCell_same W g n _ _ _ hgg, by simpa using r1, r2, by simpa using r3, ?_⟩⟩
        rw [Array.toList_setIfInBounds, List.take_set, List.length_set, r4]
        simp [zv, List.map_set]
    · rw [upd_other _ _ e]
      exact (h.ow j hj).fr hf (fun y hy ey => e (h.ap j k g hj hk (ey ▸ hy) hg))
  · by_cases e : j = k
    · subst e
      rw [upd_same, List.length_set]
      exact h.ln j hj
    · rw [upd_other _ _ e]
      exact h.ln j hj
/-- A list is grown, and stored. -/
theorem EO.app {w W w' : World} {Bs : Nat → Nat} {st : Nat → Bo} {base P : Nat} {V : Nat → Value} {R : Nat → List Int} (h : EO w W Bs st base P V R) {k : Nat} (hk : k < 4) {y : Int} {v' : Value}
    (ho : OwI w' base v' (R k ++ [y])) (hg : (W.alloc (.cells #[.int .i64 y] 3)).grownBy w' (V k).ownBlock) (hat : v'.ownBlock = (V k).ownBlock ∨ v'.ownBlock = some (W.alloc (.cells #[.int .i64 y] 3)).heap.size) (hl : (R k).length ≤ 4398046511102) :
    EO w (w'.setCell ⟨P, k, none⟩ v') Bs st base P (upd V k v') (upd R k (R k ++ [y])) := by
  have h1 := h.step (alloc_fr W (.cells #[.int .i64 y] 3) (fun _ => False))
  have hsz : W.heap.size < (W.alloc (.cells #[.int .i64 y] 3)).heap.size := by simp
  generalize W.alloc (.cells #[.int .i64 y] 3) = W1 at *
  have hPk : (V k).ownBlock ≠ some P := by
    intro e
    obtain ⟨cs, hcs⟩ := row_kind (h1.ow k hk) e
    have := h1.sp
    rw [hcs] at this
    simp at this
  have hP' : w'.heap[P]? = some (.cells #[V 0, V 1, V 2, V 3] 38 (0, 0)) := (hg.block P (lt_of_block h1.sp) (fun e => hPk e.symm)).trans h1.sp
  have hfm : Fm w w' 2 Bs st := by
    cases hb : (V k).ownBlock with
    | none =>
      rw [hb] at hg
      exact h1.fm.step ((Fr.refl _ _).grown hg (fun _ _ e => by cases e))
    | some x =>
      rw [hb] at hg
      obtain ⟨cs, hcs⟩ := row_kind (h1.ow k hk) hb
      have hlo := (World.ownsRow.lt (h1.ow k hk) x hb).1
      exact h1.fm.other hcs (by decide) ((Fr.refl _ _).grown hg (fun j _ e => by cases e; rfl)) (Nat.le_trans h1.lo.1 hlo)
  have hpk : Fr w' (w'.setCell ⟨P, k, none⟩ v') (fun j => j = P) := fr_poke _ _ _ _
  have hvP : ∀ x, v'.ownBlock = some x → x ≠ P := by
    rintro x hx rfl
    rcases hat with e | e
    · rw [e] at hx; exact hPk hx
    · rw [e] at hx; cases hx; have := lt_of_block h1.sp; omega
  have oth : ∀ j, j < 4 → j ≠ k → OwI w' base (V j) (R j) := by
    intro j hj hne
    refine (h1.ow j hj).fr ((Fr.refl W1 (fun x => (V k).ownBlock = some x)).grown hg (fun x _ e => e)) (fun x hx e => hne (h1.ap j k x hj hk hx e))
  have ltW : ∀ j x, j < 4 → (V j).ownBlock = some x → x < W1.heap.size := fun j x hj hx => (World.ownsRow.lt (h1.ow j hj) x hx).2
  refine ⟨hfm.other hP' (by decide) hpk (Nat.le_trans h.lo.1 h.lo.2.1), ?_, fun j hj => ?_, fun i j x hi hj e1 e2 => ?_, ⟨h.lo.1, h.lo.2.1, ?_⟩, fun j hj => ?_⟩
  · rw [heap_setCell_same w' P k _ _ v' hP']
    rcases (show k = 0 ∨ k = 1 ∨ k = 2 ∨ k = 3 by omega) with rfl | rfl | rfl | rfl <;> rfl
  · by_cases e : j = k
    · subst e
      rw [upd_same, upd_same]
      exact ho.fr hpk (fun x hx ex => hvP x hx ex)
    · rw [upd_other _ _ e, upd_other _ _ e]
      refine (oth j hj e).fr hpk (fun x hx ex => ?_)
      subst ex
      obtain ⟨cs, hcs⟩ := row_kind (h1.ow j hj) hx
      have := h1.sp
      rw [hcs] at this
      simp at this
  · by_cases a1 : i = k
    · by_cases a2 : j = k
      · omega
      · subst a1
        rw [upd_same] at e1
        rw [upd_other _ _ a2] at e2
        rcases hat with e | e
        · rw [e] at e1; exact h1.ap i j x hi hj e1 e2
        · rw [e] at e1; cases e1; have := ltW j _ hj e2; omega
    · rw [upd_other _ _ a1] at e1
      by_cases a2 : j = k
      · subst a2
        rw [upd_same] at e2
        rcases hat with e | e
        · rw [e] at e2; exact h1.ap i j x hi hj e1 e2
        · rw [e] at e2; cases e2; have := ltW i _ hi e1; omega
      · rw [upd_other _ _ a2] at e2
        exact h1.ap i j x hi hj e1 e2
  · have h2 := hg.size
    have h3 := h1.lo.2.2
    simp only [World.setCell]
    simp
    omega
  · by_cases e : j = k
    · subst e
      rw [upd_same, List.length_append]
      simp
      omega
    · rw [upd_other _ _ e]
      exact h.ln j hj
/-- The first n numbers of the k-th list are marked. -/
def Mk (R : Nat → List Int) (k n : Nat) : Prop := ∀ j, j < n → (R k).getD j 0 = -(1000 * (k : Int)) - (j : Int)
theorem Mk.set {R : Nat → List Int} {k n : Nat} (h : Mk R k n) (hn : n < (R k).length) : Mk (upd R k ((R k).set n (-(1000 * (k : Int)) - (n : Int)))) k (n + 1) := by
  intro j hj
  rw [upd_same]
  by_cases e : j = n
  · subst e
    simp [List.getD, hn]
  · have := h j (by omega)
    rw [← this]
    simp only [List.getD_eq_getElem?_getD]
    rw [List.getElem?_set_ne (fun e' => e e'.symm)]
theorem Mk.other {R : Nat → List Int} {k n i : Nat} {l : List Int} (h : Mk R k n) (hne : k ≠ i) : Mk (upd R i l) k n := by
  intro j hj
  rw [upd_other _ _ hne]
  exact h j hj
theorem Mk.app {R : Nat → List Int} {k n : Nat} {y : Int} (h : Mk R k n) (hn : n ≤ (R k).length) : Mk (upd R k (R k ++ [y])) k n := by
  intro j hj
  rw [upd_same, ← h j hj]
  simp only [List.getD_eq_getElem?_getD]
  rw [List.getElem?_append_left (by omega)]
end Go.Proofs.Ytekooeekaigmaaa.E
