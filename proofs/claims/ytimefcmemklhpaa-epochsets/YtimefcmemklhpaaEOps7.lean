/- Begin, End, New: walks. -/
import Derived.Test.YtimefcmemklhpaaEOps6
namespace Go.Proofs.Ytimefcmemklhpaa.E
open Go.RowKit Go.Maps Go.MuLone

/-- A map of a book, in its cells. -/
theorem bc_upd {lk : Int} {b : Bo} {m : Nat → Option Nat} {i : Nat} {v : Option Nat} {q : Nat} : bc lk b (upd m i v) q = if (q = 134 ∧ i = 65) ∨ (q = 135 ∧ i = 66) ∨ (4 ≤ q ∧ q < 134 ∧ q = 4 + i * 2) ∨ (136 < q ∧ q = 4 + i * 2) then .map v else bc lk b m q := by
  unfold bc
  by_cases h0 : q < 4
  · rcases (show q = 0 ∨ q = 1 ∨ q = 2 ∨ q = 3 by omega) with rfl | rfl | rfl | rfl <;> simp
  · have e0 : ¬ q = 0 := by omega
    have e1 : ¬ q = 1 := by omega
    have e2 : ¬ q = 2 := by omega
    have e3 : ¬ q = 3 := by omega
    by_cases h1 : q = 134
    · subst h1
      by_cases hi : i = 65
      · subst hi; simp [upd]
      · have : upd m i v 65 = m 65 := upd_other _ _ (fun e => hi e.symm)
        simp [hi, this]
    · by_cases h2 : q = 135
      · subst h2
        by_cases hi : i = 66
        · subst hi; simp [upd]
        · have : upd m i v 66 = m 66 := upd_other _ _ (fun e => hi e.symm)
          simp [hi, this]
      · by_cases h3 : q = 136
        · subst h3
          simp
        · by_cases h4 : q % 2 = 0
          · by_cases h5 : q = 4 + i * 2
            · have e5 : (q - 4) / 2 = i := by omega
              have e6 : (4 ≤ q ∧ q < 134 ∧ q = 4 + i * 2) ∨ (136 < q ∧ q = 4 + i * 2) := by omega
              simp only [e0, e1, e2, e3, h1, h2, h3, h4, if_false, if_true, e5, upd_same]
              rw [if_pos (Or.inr (Or.inr e6))]
            · have e5 : upd m i v ((q - 4) / 2) = m ((q - 4) / 2) := upd_other _ _ (by omega)
              have e6 : ¬ ((q = 134 ∧ i = 65) ∨ (q = 135 ∧ i = 66) ∨ (4 ≤ q ∧ q < 134 ∧ q = 4 + i * 2) ∨ (136 < q ∧ q = 4 + i * 2)) := by omega
              rw [if_neg e6]
              simp only [e0, e1, e2, e3, h1, h2, h3, h4, if_false, if_true, e5]
          · have e6 : ¬ ((q = 134 ∧ i = 65) ∨ (q = 135 ∧ i = 66) ∨ (4 ≤ q ∧ q < 134 ∧ q = 4 + i * 2) ∨ (136 < q ∧ q = 4 + i * 2)) := by omega
            rw [if_neg e6]
            simp only [e0, e1, e2, e3, h1, h2, h3, h4, if_false]
/-- A store of a map into a book's cell. -/
theorem bcs_map {lk : Int} {b : Bo} {m : Nat → Option Nat} {i : Nat} {v : Option Nat} {p : Nat} (hp : p < 137) (h : (p = 134 ∧ i = 65) ∨ (p = 135 ∧ i = 66) ∨ (i < 65 ∧ p = 4 + i * 2)) : (bcs lk b m).setIfInBounds p (.map v) = bcs lk b (upd m i v) := by
  refine bcs_set hp (fun q hq => ?_)
  rw [bc_upd]
  by_cases e : q = p
  · subst e
    rw [if_pos rfl, if_pos (by omega)]
  · rw [if_neg e, if_neg (by omega)]
theorem bcs_begun {lk : Int} {b : Bo} {m : Nat → Option Nat} (x : Bool) : (bcs lk b m).setIfInBounds 136 (.bool x) = bcs lk { b with begun := x } m := by
  refine bcs_set (by omega) (fun q hq => ?_)
  unfold bc
  by_cases e : q = 136
  · subst e; simp
  · simp [e]
theorem bcs_sets {lk : Int} {b : Bo} {m : Nat → Option Nat} (s : Nat → List Int) : bcs lk { b with sets := s } m = bcs lk b m := rfl

/-- A sweep begins. -/
theorem Bk.begins {w : World} {lk : Int} {B : Nat} {m : Nat → Option Nat} {b : Bo} (h : Bk w lk B m b) (hb : b.begun = false) :
    Bk ((((w.setCell ⟨B, 136, none⟩ (.bool true)).setCell ⟨B, 135, none⟩ (.map (m 65))).setCell ⟨B, 134, none⟩ (.map (some w.heap.size))).alloc (.map #[] 0)) lk B (upd (upd m 66 (m 65)) 65 (some w.heap.size)) (beginB b) := by
  have hB := h.lt
  have e0 : beginB b = { b with begun := true, sets := upd (upd b.sets 66 (b.sets 65)) 65 [] } := by simp [beginB, hb]
  have s1 : (((w.setCell ⟨B, 136, none⟩ (.bool true)).setCell ⟨B, 135, none⟩ (.map (m 65))).setCell ⟨B, 134, none⟩ (.map (some w.heap.size))).heap.size = w.heap.size := by simp [World.setCell]
  have hf : Fr w ((((w.setCell ⟨B, 136, none⟩ (.bool true)).setCell ⟨B, 135, none⟩ (.map (m 65))).setCell ⟨B, 134, none⟩ (.map (some w.heap.size))).alloc (.map #[] 0)) (fun k => k = B) :=
    (((fr_poke w B 136 _).trans (fr_poke _ B 135 _)).trans (fr_poke _ B 134 _)).alloc _
  have hN : Ms ((((w.setCell ⟨B, 136, none⟩ (.bool true)).setCell ⟨B, 135, none⟩ (.map (m 65))).setCell ⟨B, 134, none⟩ (.map (some w.heap.size))).alloc (.map #[] 0)) w.heap.size [] := by
    have h0 := Ms.new (((w.setCell ⟨B, 136, none⟩ (.bool true)).setCell ⟨B, 135, none⟩ (.map (m 65))).setCell ⟨B, 134, none⟩ (.map (some w.heap.size)))
    rwa [s1] at h0
  rw [e0]
  refine ⟨?_, fun i hi => ?_, fun i hi => ?_, fun i j x hi hj h1 h2 => ?_, ?_⟩
  · have c0 := heap_setCell_same w B 136 _ _ (.bool true) h.cell
    rw [bcs_begun] at c0
    have c2 := heap_setCell_same _ B 135 _ _ (.map (m 65)) c0
    rw [bcs_map (i := 66) (by omega) (by omega)] at c2
    have c3 := heap_setCell_same _ B 134 _ _ (.map (some w.heap.size)) c2
    rw [bcs_map (i := 65) (by omega) (by omega)] at c3
    rw [Below.heap_alloc _ _ B (by rw [s1]; exact hB)]
    exact c3
  · dsimp only
    by_cases e1 : i = 65
    · subst e1
      rw [upd_same, upd_same]
      exact hN
    · rw [upd_other _ _ e1, upd_other _ _ e1]
      by_cases e2 : i = 66
      · subst e2
        rw [upd_same, upd_same]
        exact (h.map 65 (by omega)).fr hf (fun x hx => h.ne (show 65 ≤ 66 by omega) hx)
      · rw [upd_other _ _ e2, upd_other _ _ e2]
        exact (h.map i hi).fr hf (fun x hx => h.ne hi hx)
  · by_cases e1 : i = 65
    · subst e1
      exact ⟨_, upd_same _ _ _⟩
    · rw [upd_other _ _ e1, upd_other _ _ (by omega)]
      exact h.som i hi
  · have key : ∀ i, i ≤ 66 → ∀ x, upd (upd m 66 (m 65)) 65 (some w.heap.size) i = some x → (i = 65 ∧ x = w.heap.size) ∨ (i = 66 ∧ m 65 = some x) ∨ (i < 65 ∧ m i = some x) := by
      intro i hi x hx
      by_cases e1 : i = 65
      · subst e1
        rw [upd_same] at hx
        cases hx
        exact Or.inl ⟨rfl, rfl⟩
      · rw [upd_other _ _ e1] at hx
        by_cases e2 : i = 66
        · subst e2
          rw [upd_same] at hx
          exact Or.inr (Or.inl ⟨rfl, hx⟩)
        · rw [upd_other _ _ e2] at hx
          exact Or.inr (Or.inr ⟨by omega, hx⟩)
    have lt : ∀ i x, i ≤ 66 → m i = some x → x < w.heap.size := fun i x hi hx => (h.ms hi hx).lt
    rcases key i hi x h1 with ⟨a1, b1⟩ | ⟨a1, b1⟩ | ⟨a1, b1⟩ <;> rcases key j hj x h2 with ⟨a2, b2⟩ | ⟨a2, b2⟩ | ⟨a2, b2⟩
    · omega
    · have := lt 65 x (by omega) b2; omega
    · have := lt j x (by omega) b2; omega
    · have := lt 65 x (by omega) b1; omega
    · omega
    · have := h.apart 65 j x (by omega) (by omega) b1 b2; omega
    · have := lt i x (by omega) b1; omega
    · have := h.apart i 65 x (by omega) (by omega) b1 b2; omega
    · exact h.apart i j x (by omega) (by omega) b1 b2
  · have h1 := (h.wf.put (o := 66) (h.wf.ri 65) (h.wf.lo 65) (fun e => by omega))
    have h2 := h1.put (o := 65) (l := []) (by simp) (by simp) (fun e => by omega)
    exact h2.flip true

/-- A sweep ends. -/
theorem Bk.ends {w : World} {lk : Int} {B : Nat} {m : Nat → Option Nat} {b : Bo} (h : Bk w lk B m b) (hb : b.begun = true) :
    Bk ((w.setCell ⟨B, 136, none⟩ (.bool false)).setCell ⟨B, 135, none⟩ (.map none)) lk B (upd m 66 none) (endB b) := by
  have e0 : endB b = { b with begun := false, sets := upd b.sets 66 [] } := by simp [endB, hb]
  have hf : Fr w ((w.setCell ⟨B, 136, none⟩ (.bool false)).setCell ⟨B, 135, none⟩ (.map none)) (fun k => k = B) := (fr_poke w B 136 _).trans (fr_poke _ B 135 _)
  rw [e0]
  refine ⟨?_, fun i hi => ?_, fun i hi => ?_, fun i j x hi hj h1 h2 => ?_, ?_⟩
  · have c0 := heap_setCell_same w B 136 _ _ (.bool false) h.cell
    rw [bcs_begun] at c0
    have c2 := heap_setCell_same _ B 135 _ _ (.map none) c0
    rw [bcs_map (i := 66) (by omega) (by omega)] at c2
    exact c2
  · dsimp only
    by_cases e2 : i = 66
    · subst e2
      rw [upd_same, upd_same]
      rfl
    · rw [upd_other _ _ e2, upd_other _ _ e2]
      exact (h.map i hi).fr hf (fun x hx => h.ne hi hx)
  · rw [upd_other _ _ (by omega)]
    exact h.som i hi
  · by_cases e1 : i = 66
    · subst e1
      rw [upd_same] at h1
      cases h1
    · by_cases e2 : j = 66
      · subst e2
        rw [upd_same] at h2
        cases h2
      · rw [upd_other _ _ e1] at h1
        rw [upd_other _ _ e2] at h2
        exact h.apart i j x hi hj h1 h2
  · have h1 := (h.wf.put (o := 66) (l := []) (by simp) (by simp) (fun e => by omega))
    exact h1.flip false

set_option maxHeartbeats 2000000 in
set_option maxRecDepth 100000 in
theorem beginM_any {w : World} {B : Nat} {m : Nat → Option Nat} {b : Bo} (h : Bk w 0 B m b) :
    Calls Try.prog 30 #[.pointer (some ⟨B, 0, none⟩)] w fun x w' => x = .returned (.int .i64 (beginErr b)) ∧ Lf w w' B m (beginB b) := by
  have H := hid h
  clear h
  go_enter_defers Try.func30, Try.ntmps30
  go_wp2_with fail
  refine (lock_any H.out).mono ?_
  rintro e w2 ⟨rfl, hb1, hf1⟩
  have HB := hid hb1
  have HF := hid hf1
  have hlt := hb1.lt
  have c6 : w2.cell? ⟨B, 136, none⟩ = some (.bool b.begun) := hb1.get (by omega)
  have c4 : w2.cell? ⟨B, 134, none⟩ = some (.map (m 65)) := hb1.get (by omega)
  have c5 : w2.cell? ⟨B, 135, none⟩ = some (.map (m 66)) := hb1.get (by omega)
  have f4 := hb1.free 134
  have f5 := hb1.free 135
  have f6 := hb1.free 136
  have hmm := @run_makeMap Try.prog
  clear hb1 hf1
  cases hb : b.begun with
  | true =>
    rw [hb] at c6
    have E0 := hid (show beginErr b = 43 by simp [beginErr, hb])
    have E2 := hid (show beginB b = b by simp [beginB, hb])
    go_wp2_with fail
    refine leaves_cons (f := 33) (args := #[.pointer (some ⟨B, 0, none⟩)]) (by simp) (by simp [go_sem]) ?_
    refine (unlock_any HB.out .returning).mono ?_
    rintro eZ uZ wZ ⟨rfl, rfl, hbZ, hfZ⟩
    refine ⟨_, results_tmp rfl _ _ _, ?_⟩
    rw [E0.out, E2.out]
    exact ⟨rfl, Lf.mk' hbZ (ow_B (HF.out.trans hfZ))⟩
  | false =>
    rw [hb] at c6
    have E0 := hid (show beginErr b = 0 by simp [beginErr, hb])
    have HE := hid hb
    go_wp2_with fail
    refine leaves_cons (f := 33) (args := #[.pointer (some ⟨B, 0, none⟩)]) (by simp) (by simp [go_sem]) ?_
    refine (unlock_any (HB.out.begins HE.out) .returning).mono ?_
    rintro eZ uZ wZ ⟨rfl, rfl, hbZ, hfZ⟩
    refine ⟨_, results_tmp rfl _ _ _, ?_⟩
    rw [E0.out]
    refine ⟨rfl, _, hbZ, (ow_B ((HF.out.trans ((((fr_poke _ B 136 _).trans (fr_poke _ B 135 _)).trans (fr_poke _ B 134 _)).alloc _)).trans hfZ)), fun k hk => ?_⟩
    have hs := HF.out.size
    rcases hk with rfl | ⟨i, hi, hk⟩
    · exact Or.inl (Or.inl rfl)
    · by_cases e1 : i = 65
      · subst e1
        rw [upd_same] at hk
        cases hk
        exact Or.inr hs
      · rw [upd_other _ _ e1] at hk
        by_cases e2 : i = 66
        · subst e2
          rw [upd_same] at hk
          exact Or.inl (Or.inr ⟨65, by omega, hk⟩)
        · rw [upd_other _ _ e2] at hk
          exact Or.inl (Or.inr ⟨i, hi, hk⟩)

set_option maxHeartbeats 2000000 in
set_option maxRecDepth 100000 in
theorem endM_any {w : World} {B : Nat} {m : Nat → Option Nat} {b : Bo} (h : Bk w 0 B m b) :
    Calls Try.prog 31 #[.pointer (some ⟨B, 0, none⟩)] w fun x w' => x = .returned (.tuple #[.int .i64 (endN b), .int .i64 (endErr b)]) ∧ Lf w w' B m (endB b) := by
  have H := hid h
  clear h
  go_enter_defers Try.func31, Try.ntmps31
  go_wp2_with fail
  refine (lock_any H.out).mono ?_
  rintro e w2 ⟨rfl, hb1, hf1⟩
  have HB := hid hb1
  have HF := hid hf1
  have hlt := hb1.lt
  have c6 : w2.cell? ⟨B, 136, none⟩ = some (.bool b.begun) := hb1.get (by omega)
  have c5 : w2.cell? ⟨B, 135, none⟩ = some (.map (m 66)) := hb1.get (by omega)
  have f5 := hb1.free 135
  have f6 := hb1.free 136
  have hl := (hb1.map 66 (by omega)).len
  clear hb1 hf1
  cases hb : b.begun with
  | false =>
    rw [hb] at c6
    have E0 := hid (show endErr b = 44 by simp [endErr, hb])
    have E1 := hid (show endN b = 0 by simp [endN, hb])
    have E2 := hid (show endB b = b by simp [endB, hb])
    go_wp2_with fail
    refine leaves_cons (f := 33) (args := #[.pointer (some ⟨B, 0, none⟩)]) (by simp) (by simp [go_sem]) ?_
    refine (unlock_any HB.out .returning).mono ?_
    rintro eZ uZ wZ ⟨rfl, rfl, hbZ, hfZ⟩
    refine ⟨_, results_tmp2 rfl _ _ _, ?_⟩
    rw [E0.out, E1.out, E2.out]
    exact ⟨rfl, Lf.mk' hbZ (ow_B (HF.out.trans hfZ))⟩
  | true =>
    rw [hb] at c6
    have E0 := hid (show endErr b = 0 by simp [endErr, hb])
    have E1 := hid (show endN b = ((b.sets 66).length : Int) by simp [endN, hb])
    have HE := hid hb
    go_wp2_with fail
    refine leaves_cons (f := 33) (args := #[.pointer (some ⟨B, 0, none⟩)]) (by simp) (by simp [go_sem]) ?_
    refine (unlock_any (HB.out.ends HE.out) .returning).mono ?_
    rintro eZ uZ wZ ⟨rfl, rfl, hbZ, hfZ⟩
    refine ⟨_, results_tmp2 rfl _ _ _, ?_⟩
    rw [E0.out, E1.out]
    refine ⟨rfl, _, hbZ, (ow_B ((HF.out.trans ((fr_poke _ B 136 _).trans (fr_poke _ B 135 _))).trans hfZ)), fun k hk => ?_⟩
    rcases hk with rfl | ⟨i, hi, hk⟩
    · exact Or.inl (Or.inl rfl)
    · by_cases e2 : i = 66
      · subst e2
        rw [upd_same] at hk
        cases hk
      · rw [upd_other _ _ e2] at hk
        exact Or.inl (Or.inr ⟨i, hi, hk⟩)

/-- A book that was just made. -/
def newB (pins : Int) : Bo := ⟨pins, 1, fun _ => [], fun _ => 0, false⟩
theorem newB_wf {pins : Int} (h1 : 1 ≤ pins) (h2 : pins ≤ 64) : Wf (newB pins) :=
  ⟨⟨h1, h2⟩, ⟨by show (1 : Int) ≤ 1; omega, by show (1 : Int) ≤ _; omega⟩, fun _ => by simp [newB], fun _ x hx => by simp [newB] at hx, fun _ _ => by show ((0 : Nat) : Int) ≤ pins; omega, fun _ => by show (0 : Int) ≤ 0 ∧ (0 : Int) < 1; omega⟩
/-- Half made: the first k hands have their maps. -/
structure Hf (w : World) (B : Nat) (m : Nat → Option Nat) (pins : Int) (base k : Nat) : Prop where
  cell : w.heap[B]? = some (.cells (bcs 0 (newB pins) m) 75 (0, 0))
  map : ∀ i, i ≤ 66 → Mo w (m i) []
  som : ∀ i, i ≤ 65 → (i < k ∨ i = 65) → ∃ x, m i = some x
  apart : ∀ i j x, i ≤ 66 → j ≤ 66 → m i = some x → m j = some x → i = j
  lo : ∀ i x, i ≤ 66 → m i = some x → base ≤ x

theorem Hf.next {w : World} {B : Nat} {m : Nat → Option Nat} {pins : Int} {base k : Nat} (h : Hf w B m pins base k) (hk : k < 65) (hb : base ≤ w.heap.size) :
    Hf ((w.setCell ⟨B, 4 + k * 2, none⟩ (.map (some w.heap.size))).alloc (.map #[] 0)) B (upd m k (some w.heap.size)) pins base (k + 1) := by
  have hB := lt_of_block h.cell
  have s1 : (w.setCell ⟨B, 4 + k * 2, none⟩ (.map (some w.heap.size))).heap.size = w.heap.size := by simp [World.setCell]
  have hf : Fr w ((w.setCell ⟨B, 4 + k * 2, none⟩ (.map (some w.heap.size))).alloc (.map #[] 0)) (fun j => j = B) := (fr_poke _ _ _ _).alloc _
  have lt : ∀ i x, i ≤ 66 → m i = some x → x < w.heap.size := fun i x hi hx => by
    have := h.map i hi
    rw [hx] at this
    exact Ms.lt this
  refine ⟨?_, fun i hi => ?_, fun i hi hik => ?_, fun i j x hi hj h1 h2 => ?_, fun i x hi hx => ?_⟩
  · have c := heap_setCell_same w B (4 + k * 2) _ _ (.map (some w.heap.size)) h.cell
    rw [bcs_map (i := k) (by omega) (by omega)] at c
    rw [Below.heap_alloc _ _ B (by rw [s1]; exact hB)]
    exact c
  · by_cases e : i = k
    · subst e
      rw [upd_same]
      have h0 := Ms.new (w.setCell ⟨B, 4 + i * 2, none⟩ (.map (some w.heap.size)))
      rw [s1] at h0
      exact h0
    · rw [upd_other _ _ e]
      refine (h.map i hi).fr hf (fun x hx ex => ?_)
      subst ex
      have := h.map i hi
      rw [hx] at this
      obtain ⟨D, ⟨es, c, hc, _⟩, _⟩ := this
      rw [h.cell] at hc
      cases hc
  · by_cases e : i = k
    · subst e
      exact ⟨_, upd_same _ _ _⟩
    · rw [upd_other _ _ e]
      exact h.som i hi (by omega)
  · by_cases e1 : i = k
    · by_cases e2 : j = k
      · omega
      · subst e1
        rw [upd_same] at h1
        cases h1
        rw [upd_other _ _ e2] at h2
        have := lt j _ hj h2
        omega
    · rw [upd_other _ _ e1] at h1
      by_cases e2 : j = k
      · subst e2
        rw [upd_same] at h2
        cases h2
        have := lt i _ hi h1
        omega
      · rw [upd_other _ _ e2] at h2
        exact h.apart i j x hi hj h1 h2
  · by_cases e1 : i = k
    · subst e1
      rw [upd_same] at hx
      cases hx
      exact hb
    · rw [upd_other _ _ e1] at hx
      exact h.lo i x hi hx
set_option maxRecDepth 100000 in
theorem zeros_eq : Try.zeroCells75 = bcs 0 ⟨0, 0, fun _ => [], fun _ => 0, false⟩ (fun _ => none) := by kernel_rfl
theorem newCells_eq (w : World) (pins : Int) : (((((Try.zeroCells75.setIfInBounds 2 (Value.int IntKind.i64 pins)).setIfInBounds 3 (Value.int IntKind.i64 1)).setIfInBounds 134 (Value.map (some w.heap.size))).setIfInBounds 135 (Value.map none)).setIfInBounds 136 (Value.bool false)) = bcs 0 (newB pins) (upd (fun _ => none) 65 (some w.heap.size)) := by
  rw [zeros_eq]
  rw [bcs_set (p := 2) (v := .int .i64 pins) (lk' := 0) (b' := ⟨pins, 0, fun _ => [], fun _ => 0, false⟩) (m' := fun _ => none) (by omega) (fun q _ => by unfold bc; by_cases e : q = 2 <;> simp [e])]
  rw [bcs_set (p := 3) (v := .int .i64 1) (lk' := 0) (b' := newB pins) (m' := fun _ => none) (by omega) (fun q _ => by unfold bc newB; by_cases e : q = 3 <;> simp [e])]
  rw [bcs_map (i := 65) (by omega) (by omega), bcs_map (i := 66) (by omega) (by omega), bcs_begun]
  have : upd (upd (fun _ => (none : Option Nat)) 65 (some w.heap.size)) 66 none = upd (fun _ => none) 65 (some w.heap.size) := by
    funext j
    unfold upd
    by_cases e : j = 66
    · subst e; simp
    · simp [e]
  rw [this]
  rfl
theorem hf_start (w : World) (pins : Int) : ∃ m, Hf ((w.alloc (.map #[] 0)).alloc (.cells ((((((Try.zeroCells75.setIfInBounds 2 (Value.int IntKind.i64 pins)).setIfInBounds 3 (Value.int IntKind.i64 1)).setIfInBounds 134 (Value.map (some w.heap.size))).setIfInBounds 135 (Value.map none)).setIfInBounds 136 (Value.bool false))) 75)) (w.heap.size + 1) m pins w.heap.size 0 := by
  refine ⟨upd (fun _ => none) 65 (some w.heap.size), ?_, fun i hi => ?_, fun i hi hik => ?_, fun i j x hi hj h1 h2 => ?_, fun i x hi hx => ?_⟩
  · rw [newCells_eq]
    have := heap_alloc_new (w.alloc (.map #[] 0)) (.cells (bcs 0 (newB pins) (upd (fun _ => none) 65 (some w.heap.size))) 75)
    simpa using this
  · by_cases e : i = 65
    · subst e
      rw [upd_same]
      exact (Ms.new w).fr (alloc_fr _ _ (fun _ => False)) (fun h => h)
    · rw [upd_other _ _ e]
      rfl
  · have : i = 65 := by omega
    subst this
    exact ⟨_, upd_same _ _ _⟩
  · have key : ∀ i, upd (fun _ => (none : Option Nat)) 65 (some w.heap.size) i = some x → i = 65 := by
      intro i h
      by_cases e : i = 65
      · exact e
      · rw [upd_other _ _ e] at h
        cases h
    rw [key i h1, key j h2]
  · by_cases e : i = 65
    · subst e
      rw [upd_same] at hx
      cases hx
      exact Nat.le_refl _
    · rw [upd_other _ _ e] at hx
      cases hx
set_option maxHeartbeats 4000000 in
set_option maxRecDepth 100000 in
theorem new_err (pins : Int) (h : pins < 1 ∨ 64 < pins) (w : World) :
    Calls Try.prog 10 #[.int .i64 pins] w fun x w' => x = .returned (.tuple #[.pointer none, .int .i64 1]) ∧ w' = w := by
  rcases h with h | h
  · go_enter Try.func10, Try.ntmps10
    go_wp2_with fail
    go_ret2
    exact ⟨rfl, rfl⟩
  · have h2 : ¬ pins < 1 := by omega
    go_enter Try.func10, Try.ntmps10
    go_wp2_with fail
    go_ret2
    exact ⟨rfl, rfl⟩
set_option maxHeartbeats 4000000 in
set_option maxRecDepth 100000 in
theorem new_any (pins : Int) (h1 : 1 ≤ pins) (h2 : pins ≤ 64) (w : World) :
    Calls Try.prog 10 #[.int .i64 pins] w fun x w' => ∃ B, x = .returned (.tuple #[.pointer (some ⟨B, 0, none⟩), .int .i64 0]) ∧ ∃ m, Bk w' 0 B m (newB pins) ∧ (∀ k, ow B m k → w.heap.size ≤ k) ∧ Fr w w' (fun _ => False) := by
  have hmm := @run_makeMap Try.prog
  have t1 : ¬ pins < 1 := by omega
  have t2 : ¬ 64 < pins := by omega
  go_enter Try.func10, Try.ntmps10
  go_wp2_with fail
  have HH0 := hid (hf_start w pins)
  have HF0 : Hid (Fr w ((w.alloc (.map #[] 0)).alloc (.cells ((((((Try.zeroCells75.setIfInBounds 2 (Value.int IntKind.i64 pins)).setIfInBounds 3 (Value.int IntKind.i64 1)).setIfInBounds 134 (Value.map (some w.heap.size))).setIfInBounds 135 (Value.map none)).setIfInBounds 136 (Value.bool false))) 75)) (fun _ => False)) := ((Fr.refl w _).alloc _).alloc _
  have HT := hid (And.intro h1 h2)
  change Code.wp _ _ _ _ ((w.alloc (.map #[] 0)).alloc (.cells ((((((Try.zeroCells75.setIfInBounds 2 (Value.int IntKind.i64 pins)).setIfInBounds 3 (Value.int IntKind.i64 1)).setIfInBounds 134 (Value.map (some w.heap.size))).setIfInBounds 135 (Value.map none)).setIfInBounds 136 (Value.bool false))) 75))
  generalize (w.alloc (.map #[] 0)).alloc (.cells ((((((Try.zeroCells75.setIfInBounds 2 (Value.int IntKind.i64 pins)).setIfInBounds 3 (Value.int IntKind.i64 1)).setIfInBounds 134 (Value.map (some w.heap.size))).setIfInBounds 135 (Value.map none)).setIfInBounds 136 (Value.bool false))) 75) = w0 at *
  go_loopg [17] 65 (fun g s17 wx => ∃ i : Nat, s17 = .int .i64 (i : Int) ∧ i + g = 65 ∧ Hid (∃ m, Hf wx (w.heap.size + 1) m pins w.heap.size i) ∧ Hid (Fr w wx (fun _ => False)))
  case atStart => exact ⟨0, rfl, rfl, HH0, HF0⟩
  case round =>
    obtain ⟨i, rfl, hg, HH, HF⟩ := hrel
    cases gk with
    | zero =>
      have t3 : ¬ (i : Int) < 65 := by omega
      have HI := hid (show i = 65 by omega)
      clear hg
      go_wp2_with fail
      go_ret2
      obtain ⟨m, hm⟩ := HH.out
      refine ⟨_, rfl, m, ⟨hm.cell, fun i hi => hm.map i hi, fun j hj => hm.som j hj (by have := HI.out; omega), hm.apart, newB_wf HT.out.1 HT.out.2⟩, fun k hk => ?_, HF.out⟩
      rcases hk with rfl | ⟨j, hj, hk⟩
      · omega
      · exact hm.lo j k hj hk
    | succ g =>
      have hi : i < 65 := by omega
      have t3 : (i : Int) < 65 := by omega
      obtain ⟨m, hm⟩ := HH.out
      have c4 : wr.cell? ⟨w.heap.size + 1, 4 + i * 2, none⟩ = some (.map (m i)) := by
        rw [cell_of_row wr _ (4 + i * 2) _ _ (0, 0) hm.cell, bcs_get (by omega), bc_map hi]
      have f4 : wr.frozen? ⟨w.heap.size + 1, 4 + i * 2, none⟩ = false := by simp [World.frozen?, hm.cell]
      have hlt := lt_of_block hm.cell
      have HG := hid hg
      have HI := hid hi
      have HM := hid hm
      clear hg hm
      go_wp2_with fail
      go_roundg g
      case rel =>
        refine ⟨i + 1, by simp, by have := HG.out; omega, ⟨_, HM.out.next HI.out HF.out.size⟩, ?_⟩
        exact (Fr.setCell HF.out (p := ⟨w.heap.size + 1, 4 + i * 2, none⟩) (fun h => by dsimp only at h; omega) _).alloc _
      case measure => omega
end Go.Proofs.Ytimefcmemklhpaa.E
