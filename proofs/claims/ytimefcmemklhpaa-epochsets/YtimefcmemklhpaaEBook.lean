/- A book in memory: its block of 137 cells, its maps, apart from each other. -/
import Derived.Test.YtimefcmemklhpaaEList
import Derived.Test.YtimefcmemklhpaaELock
import Derived.Deep.MidRow
import Derived.Deep.LoopGhost
import Derived.Deep.RegionHeld3
import Derived.BigQuiet
namespace Go.Proofs.Ytimefcmemklhpaa.E
open Go.RowKit Go.Maps Go.MuLone

/-- What a book's cells hold. -/
def bc (lk : Int) (b : Bo) (m : Nat → Option Nat) (p : Nat) : Value :=
  if p = 0 then .int .i32 lk else if p = 1 then .int .u32 0 else if p = 2 then .int .i64 b.pins else if p = 3 then .int .i64 b.now
  else if p = 134 then .map (m 65) else if p = 135 then .map (m 66) else if p = 136 then .bool b.begun
  else if p % 2 = 0 then .map (m ((p - 4) / 2)) else .int .i64 (b.inn ((p - 4) / 2))
def bcs (lk : Int) (b : Bo) (m : Nat → Option Nat) : Array Value := ((List.range 137).map (bc lk b m)).toArray
theorem bcs_get {lk : Int} {b : Bo} {m : Nat → Option Nat} {p : Nat} (hp : p < 137) : (bcs lk b m)[p]? = some (bc lk b m p) := by
  simp [bcs, List.getElem?_map, List.getElem?_range hp]
theorem bcs_set {lk lk' : Int} {b b' : Bo} {m m' : Nat → Option Nat} {p : Nat} {v : Value} (hp : p < 137) (h : ∀ q, q < 137 → bc lk' b' m' q = if q = p then v else bc lk b m q) : (bcs lk b m).setIfInBounds p v = bcs lk' b' m' := by
  apply Array.ext_getElem?
  intro i
  rw [Array.getElem?_setIfInBounds]
  by_cases hi : i < 137
  · rw [bcs_get hi, bcs_get hi, h i hi]
    by_cases e : p = i
    · subst e
      simp [bcs, hp]
    · have e' : ¬ i = p := fun x => e x.symm
      simp [e, e']
  · have h1 : (bcs lk b m)[i]? = none := by simp [bcs]; omega
    have h2 : (bcs lk' b' m')[i]? = none := by simp [bcs]; omega
    have e : ¬ p = i := by omega
    simp [e, h1, h2]
theorem bc_map {lk : Int} {b : Bo} {m : Nat → Option Nat} {o : Nat} (ho : o < 65) : bc lk b m (4 + o * 2) = .map (m o) := by
  unfold bc
  rw [if_neg (by omega), if_neg (by omega), if_neg (by omega), if_neg (by omega), if_neg (by omega), if_neg (by omega), if_neg (by omega), if_pos (by omega)]
  rw [show (4 + o * 2 - 4) / 2 = o by omega]
theorem bc_inn {lk : Int} {b : Bo} {m : Nat → Option Nat} {o : Nat} (ho : o < 65) : bc lk b m (4 + o * 2 + 1) = .int .i64 (b.inn o) := by
  unfold bc
  rw [if_neg (by omega), if_neg (by omega), if_neg (by omega), if_neg (by omega), if_neg (by omega), if_neg (by omega), if_neg (by omega), if_neg (by omega)]
  rw [show (4 + o * 2 + 1 - 4) / 2 = o by omega]

theorem fr_poke (w : World) (B p : Nat) (v : Value) : Fr w (w.setCell ⟨B, p, none⟩ v) (fun k => k = B) := Fr.setCell (Fr.refl w (fun k => k = B)) (p := ⟨B, p, none⟩) (fun _ => rfl) v
structure Bk (w : World) (lk : Int) (B : Nat) (m : Nat → Option Nat) (b : Bo) : Prop where
  cell : w.heap[B]? = some (.cells (bcs lk b m) 75 (0, 0))
  map : ∀ i, i ≤ 66 → Mo w (m i) (b.sets i)
  som : ∀ i, i ≤ 65 → ∃ x, m i = some x
  apart : ∀ i j x, i ≤ 66 → j ≤ 66 → m i = some x → m j = some x → i = j
  wf : Wf b
/-- A book's own blocks. -/
def ow (B : Nat) (m : Nat → Option Nat) (k : Nat) : Prop := k = B ∨ ∃ i, i ≤ 66 ∧ m i = some k
theorem Bk.lt {w : World} {lk : Int} {B : Nat} {m : Nat → Option Nat} {b : Bo} (h : Bk w lk B m b) : B < w.heap.size := lt_of_block h.cell
theorem Bk.ms {w : World} {lk : Int} {B : Nat} {m : Nat → Option Nat} {b : Bo} (h : Bk w lk B m b) {i x : Nat} (hi : i ≤ 66) (hx : m i = some x) : Ms w x (b.sets i) := by
  have := h.map i hi
  rw [hx] at this
  exact this
theorem Bk.ow_lt {w : World} {lk : Int} {B : Nat} {m : Nat → Option Nat} {b : Bo} (h : Bk w lk B m b) {k : Nat} (hk : ow B m k) : k < w.heap.size := by
  rcases hk with rfl | ⟨i, hi, hk⟩
  · exact h.lt
  · exact (h.ms hi hk).lt
theorem Bk.ne {w : World} {lk : Int} {B : Nat} {m : Nat → Option Nat} {b : Bo} (h : Bk w lk B m b) {i x : Nat} (hi : i ≤ 66) (hx : m i = some x) : x ≠ B := by
  rintro rfl
  obtain ⟨D, ⟨es, c, h1, _⟩, _⟩ := h.ms hi hx
  rw [h.cell] at h1
  cases h1
theorem Bk.get {w : World} {lk : Int} {B : Nat} {m : Nat → Option Nat} {b : Bo} (h : Bk w lk B m b) {p : Nat} (hp : p < 137) : w.cell? ⟨B, p, none⟩ = some (bc lk b m p) := by
  rw [cell_of_row w B p _ _ (0, 0) h.cell, bcs_get hp]
theorem Bk.free {w : World} {lk : Int} {B : Nat} {m : Nat → Option Nat} {b : Bo} (h : Bk w lk B m b) (p : Nat) : w.frozen? ⟨B, p, none⟩ = false := by
  simp [World.frozen?, h.cell]
theorem Bk.fr {w w' : World} {S : Nat → Prop} {lk : Int} {B : Nat} {m : Nat → Option Nat} {b : Bo} (h : Bk w lk B m b) (hf : Fr w w' S) (hS : ∀ k, ow B m k → ¬ S k) : Bk w' lk B m b :=
  ⟨(hf.block B h.lt (hS B (Or.inl rfl))).trans h.cell, fun i hi => (h.map i hi).fr hf (fun x hx => hS x (Or.inr ⟨i, hi, hx⟩)), h.som, h.apart, h.wf⟩
theorem Bk.step {w w' : World} {lk : Int} {B : Nat} {m : Nat → Option Nat} {b : Bo} (h : Bk w lk B m b) (hf : Fr w w' (fun _ => False)) : Bk w' lk B m b := h.fr hf (fun _ _ h => h)
/-- A store into the book's block. -/
theorem Bk.poke {w : World} {lk lk' : Int} {B : Nat} {m m' : Nat → Option Nat} {b b' : Bo} (h : Bk w lk B m b) {p : Nat} {v : Value} (hp : p < 137) (hc : ∀ q, q < 137 → bc lk' b' m' q = if q = p then v else bc lk b m q)
    (hm : ∀ i, i ≤ 66 → Mo w (m' i) (b'.sets i)) (hs : ∀ i, i ≤ 65 → ∃ x, m' i = some x) (ha : ∀ i j x, i ≤ 66 → j ≤ 66 → m' i = some x → m' j = some x → i = j) (hw : Wf b') : Bk (w.setCell ⟨B, p, none⟩ v) lk' B m' b' := by
  have hf : Fr w (w.setCell ⟨B, p, none⟩ v) (fun k => k = B) := fr_poke _ _ _ _
  refine ⟨?_, fun i hi => (hm i hi).fr hf (fun x hx => ?_), hs, ha, hw⟩
  · rw [heap_setCell_same w B p _ _ v h.cell, bcs_set hp hc]
  · rintro rfl
    have := hm i hi
    rw [hx] at this
    obtain ⟨D, ⟨es, c, h1, _⟩, _⟩ := this
    rw [h.cell] at h1
    cases h1
/-- The lock is taken, or let go. -/
theorem Bk.lock {w : World} {lk lk' : Int} {B : Nat} {m : Nat → Option Nat} {b : Bo} (h : Bk w lk B m b) : Bk (w.setCell ⟨B, 0, none⟩ (.int .i32 lk')) lk' B m b :=
  h.poke (by omega) (fun q _ => by unfold bc; by_cases e : q = 0 <;> simp [e]) h.map h.som h.apart h.wf
/-- A set's map turns. -/
theorem Bk.turn {w w' : World} {lk : Int} {B : Nat} {m : Nat → Option Nat} {b : Bo} (h : Bk w lk B m b) {i x : Nat} (hi : i ≤ 66) (hx : m i = some x) (hg : w.grownBy w' (some x)) {l : List Int} (hl : Ms w' x l)
    (hwf : Wf { b with sets := upd b.sets i l }) : Bk w' lk B m { b with sets := upd b.sets i l } := by
  have hf : Fr w w' (fun k => k = x) := (Fr.refl _ _).grown hg (fun k _ e => by cases e; rfl)
  refine ⟨(hf.block B h.lt (fun e => h.ne hi hx e.symm)).trans h.cell, fun j hj => ?_, h.som, h.apart, hwf⟩
  dsimp only
  by_cases e : j = i
  · subst e
    rw [upd_same, hx]
    exact hl
  · rw [upd_other _ _ e]
    exact (h.map j hj).fr hf (fun y hy hyx => e (h.apart j i x hj hi (hyx ▸ hy) hx))
/-- Behind a call that took the lock and let it go, and changed nothing else, all is as it was. -/
theorem Bk.same {w w' : World} {lk : Int} {B : Nat} {m : Nat → Option Nat} {b : Bo} (h : Bk w lk B m b) (h' : Bk w' lk B m b) (hf : Fr w w' (fun k => k = B)) : Fr w w' (fun _ => False) :=
  ⟨hf.os, hf.tape, hf.output, hf.size, fun k hk _ => by
    by_cases e : k = B
    · subst e; rw [h.cell, h'.cell]
    · exact hf.block k hk e⟩
theorem lock_any {w : World} {B : Nat} {m : Nat → Option Nat} {b : Bo} (h : Bk w 0 B m b) :
    Calls Try.prog 32 #[.pointer (some ⟨B, 0, none⟩)] w fun e w' => e = .returned (.tuple #[]) ∧ Bk w' 1 B m b ∧ Fr w w' (fun k => k = B) := by
  refine (lock_free muLib ⟨B, 0, none⟩ w (h.get (by omega)) (h.free 0)).mono ?_
  rintro e w' ⟨rfl, rfl⟩
  exact ⟨rfl, h.lock, fr_poke _ _ _ _⟩
theorem unlock_any {w : World} {B : Nat} {m : Nat → Option Nat} {b : Bo} (h : Bk w 1 B m b) (u : FrameMode) :
    CallsD Try.prog 33 #[.pointer (some ⟨B, 0, none⟩)] u w fun e u' w' => u' = u ∧ e = .returned (.tuple #[]) ∧ Bk w' 0 B m b ∧ Fr w w' (fun k => k = B) := by
  refine (unlock_deferred muLib ⟨B, 0, none⟩ u w (h.get (by omega)) (h.free 0)).mono ?_
  rintro e u' w' ⟨rfl, rfl, rfl⟩
  exact ⟨rfl, rfl, h.lock, fr_poke _ _ _ _⟩

/-- An epoch, as Go holds it. -/
def fits (e : Int) : Prop := -9223372036854775808 ≤ e ∧ e ≤ 9223372036854775807
theorem fits_wf {e : Int} (h : fits e) : (Lit.int .i64 e).wf = true := by
  unfold fits at h
  exact WalkArith.wf_i64 (by omega)

set_option maxHeartbeats 1000000 in
set_option maxRecDepth 100000 in
theorem now_any {w : World} {B : Nat} {m : Nat → Option Nat} {b : Bo} (h : Bk w 0 B m b) :
    Calls Try.prog 21 #[.pointer (some ⟨B, 0, none⟩)] w fun e w' => e = .returned (.int .i64 b.now) ∧ Fr w w' (fun _ => False) := by
  have H := hid h
  go_enter_defers Try.func21, Try.ntmps21
  go_wp2_with fail
  refine (lock_any H.out).mono ?_
  rintro e w1 ⟨rfl, hb1, hf1⟩
  have HB := hid hb1
  have HF := hid hf1
  have c3 : w1.cell? ⟨B, 3, none⟩ = some (.int .i64 b.now) := hb1.get (by omega)
  clear hb1 hf1 h
  go_wp2_with fail
  refine leaves_cons (f := 33) (args := #[.pointer (some ⟨B, 0, none⟩)]) (by simp) (by simp [go_sem]) ?_
  refine (unlock_any HB.out .returning).mono ?_
  rintro e u' w2 ⟨rfl, rfl, hb2, hf2⟩
  exact ⟨_, results_tmp rfl _ _ _, rfl, H.out.same hb2 (HF.out.trans hf2)⟩
end Go.Proofs.Ytimefcmemklhpaa.E
