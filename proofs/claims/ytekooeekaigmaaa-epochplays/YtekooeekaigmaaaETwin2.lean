/- Twin: the walk, second half. -/
import Derived.Test.YtekooeekaigmaaaETwin
namespace Go.Proofs.Ytekooeekaigmaaa.E
open Go.RowKit Go.Maps Go.MuLone Go.Shelf

/-- A twin's book while its hands are filled: the first k are. -/
def part' (b : Bo) (k : Nat) : Bo := { b with inn := fun j => if j < k then b.inn j else 0 }
structure Ht (w : World) (C : Nat) (m' : Nat → Option Nat) (b : Bo) (base k : Nat) : Prop where
  cell : w.heap[C]? = some (.cells (bcs 0 (part' b k) m') 75 (0, 0))
  map : ∀ i, i ≤ 66 → (i < k ∨ 65 ≤ i) → Mo w (m' i) (b.sets i)
  non : ∀ i, k ≤ i → i < 65 → m' i = none
  som : ∀ i, i ≤ 65 → (i < k ∨ i = 65) → ∃ x, m' i = some x
  apart : ∀ i j x, i ≤ 66 → j ≤ 66 → m' i = some x → m' j = some x → i = j
  lo : ∀ i x, i ≤ 66 → m' i = some x → base ≤ x
  lt : ∀ i x, i ≤ 66 → m' i = some x → x < w.heap.size
theorem Ht.fr {w w' : World} {C : Nat} {m' : Nat → Option Nat} {b : Bo} {base k : Nat} (h : Ht w C m' b base k) (hf : Fr w w' (fun _ => False)) : Ht w' C m' b base k :=
  ⟨(hf.block C (lt_of_block h.cell) (fun h => h)).trans h.cell, fun i hi hk => (h.map i hi hk).fr hf (fun _ _ h => h), h.non, h.som, h.apart, h.lo, fun i x hi hx => Nat.lt_of_lt_of_le (h.lt i x hi hx) hf.size⟩
set_option maxRecDepth 100000 in
theorem twin_cells (b : Bo) (m5 m6 : Option Nat) : (((((Try.zeroCells75.setIfInBounds 2 (Value.int IntKind.i64 b.pins)).setIfInBounds 3 (Value.int IntKind.i64 b.now)).setIfInBounds 134 (Value.map m5)).setIfInBounds 135 (Value.map m6)).setIfInBounds 136 (Value.bool b.begun)) = bcs 0 (part' b 0) (upd (upd (fun _ => none) 65 m5) 66 m6) := by
  rw [zeros_eq]
  rw [bcs_set (p := 2) (v := .int .i64 b.pins) (lk' := 0) (b' := ⟨b.pins, 0, fun _ => [], fun _ => 0, false⟩) (m' := fun _ => none) (by omega) (fun q _ => by unfold bc; by_cases e : q = 2 <;> simp [e])]
  rw [bcs_set (p := 3) (v := .int .i64 b.now) (lk' := 0) (b' := ⟨b.pins, b.now, fun _ => [], fun _ => 0, false⟩) (m' := fun _ => none) (by omega) (fun q _ => by unfold bc; by_cases e : q = 3 <;> simp [e])]
  rw [bcs_map (i := 65) (by omega) (by omega), bcs_map (i := 66) (by omega) (by omega), bcs_begun]
  rfl
theorem ht_start {w w' : World} {b : Bo} {m5 m6 x5 x6 : Option Nat} (h5 : Cl w w' x5 m5 (b.sets 65)) (h6 : Cl w w' x6 m6 (b.sets 66)) (hx : ∃ x, x5 = some x) (hap : ∀ y, m5 = some y → m6 ≠ some y) :
    Ht (w'.alloc (.cells (bcs 0 (part' b 0) (upd (upd (fun _ => none) 65 m5) 66 m6)) 75)) w'.heap.size (upd (upd (fun _ => none) 65 m5) 66 m6) b w.heap.size 0 := by
  have u5 : upd (upd (fun _ => (none : Option Nat)) 65 m5) 66 m6 65 = m5 := by rw [upd_other _ _ (by omega), upd_same]
  have u6 : upd (upd (fun _ => (none : Option Nat)) 65 m5) 66 m6 66 = m6 := upd_same _ _ _
  have un : ∀ i, i < 65 → upd (upd (fun _ => (none : Option Nat)) 65 m5) 66 m6 i = none := fun i hi => by rw [upd_other _ _ (by omega), upd_other _ _ (by omega)]
  have hf := alloc_fr w' (.cells (bcs 0 (part' b 0) (upd (upd (fun _ => none) 65 m5) 66 m6)) 75) (fun _ => False)
  have cs : ∀ i x, i ≤ 66 → upd (upd (fun _ => (none : Option Nat)) 65 m5) 66 m6 i = some x → (i = 65 ∧ m5 = some x) ∨ (i = 66 ∧ m6 = some x) := by
    intro i x hi hx
    by_cases h1 : i < 65
    · rw [un i h1] at hx; cases hx
    · rcases (show i = 65 ∨ i = 66 by omega) with rfl | rfl
      · rw [u5] at hx; exact Or.inl ⟨rfl, hx⟩
      · rw [u6] at hx; exact Or.inr ⟨rfl, hx⟩
  refine ⟨heap_alloc_new w' _, fun i hi hk => ?_, fun i _ hi => un i hi, fun i hi hk => ?_, fun i j x hi hj h1 h2 => ?_, fun i x hi hx => ?_, fun i x hi hx => ?_⟩
  · rcases (show i = 65 ∨ i = 66 by omega) with rfl | rfl
    · rw [u5]; exact h5.1.fr hf (fun _ _ h => h)
    · rw [u6]; exact h6.1.fr hf (fun _ _ h => h)
  · have : i = 65 := by omega
    subst this
    rw [u5]
    obtain ⟨x, hx⟩ := hx
    exact h5.2.2.1 x hx
  · rcases cs i x hi h1 with ⟨rfl, a1⟩ | ⟨rfl, a1⟩ <;> rcases cs j x hj h2 with ⟨rfl, a2⟩ | ⟨rfl, a2⟩
    · rfl
    · exact absurd a2 (hap x a1)
    · exact absurd a1 (hap x a2)
    · rfl
  · rcases cs i x hi hx with ⟨rfl, a1⟩ | ⟨rfl, a1⟩
    · exact h5.2.1 x a1
    · exact h6.2.1 x a1
  · rcases cs i x hi hx with ⟨rfl, a1⟩ | ⟨rfl, a1⟩
    · have := h5.1
      rw [a1] at this
      have := Ms.lt this
      simp; omega
    · have := h6.1
      rw [a1] at this
      have := Ms.lt this
      simp; omega
theorem part_set (b : Bo) (m' : Nat → Option Nat) (k : Nat) (hk : k < 65) (v : Option Nat) : ((bcs 0 (part' b k) m').setIfInBounds (4 + k * 2) (.map v)).setIfInBounds (4 + k * 2 + 1) (.int .i64 (b.inn k)) = bcs 0 (part' b (k + 1)) (upd m' k v) := by
  rw [bcs_map (i := k) (by omega) (by omega)]
  refine bcs_set (by omega) (fun q hq => ?_)
  by_cases e : q = 4 + k * 2 + 1
  · subst e
    rw [if_pos rfl, bc_inn hk]
    simp [part']
  · rw [if_neg e]
    unfold bc
    by_cases h0 : q < 4
    · rcases (show q = 0 ∨ q = 1 ∨ q = 2 ∨ q = 3 by omega) with rfl | rfl | rfl | rfl <;> simp [part']
    · by_cases h1 : q = 134
      · subst h1; simp
      · by_cases h2 : q = 135
        · subst h2; simp
        · by_cases h3 : q = 136
          · subst h3; simp [part']
          · by_cases h4 : q % 2 = 0
            · simp [h1, h2, h3, h4, part']
            · have e1 : ((q - 4) / 2 < k + 1) ↔ ((q - 4) / 2 < k) := by omega
              simp [h1, h2, h3, h4, part', e1]
theorem Ht.next {w0 w w' : World} {C : Nat} {m' : Nat → Option Nat} {b : Bo} {base k : Nat} (h : Ht w C m' b base k) (hk : k < 65) {x v : Option Nat} (hc : Cl w0 w' x v (b.sets k)) (h0 : Fr w w0 (fun _ => False)) (hb : base ≤ w.heap.size) (hx : ∃ y, x = some y) :
    Ht ((w'.setCell ⟨C, 4 + k * 2, none⟩ (.map v)).setCell ⟨C, 4 + k * 2 + 1, none⟩ (.int .i64 (b.inn k))) C (upd m' k v) b base (k + 1) := by
  have hf : Fr w w' (fun _ => False) := h0.trans hc.fr
  have hC := lt_of_block h.cell
  have hs : ((w'.setCell ⟨C, 4 + k * 2, none⟩ (.map v)).setCell ⟨C, 4 + k * 2 + 1, none⟩ (.int .i64 (b.inn k))).heap.size = w'.heap.size := by simp [World.setCell]
  have hp : Fr w' ((w'.setCell ⟨C, 4 + k * 2, none⟩ (.map v)).setCell ⟨C, 4 + k * 2 + 1, none⟩ (.int .i64 (b.inn k))) (fun j => j = C) := (fr_poke _ _ _ _).trans (fr_poke _ _ _ _)
  have hc' : w'.heap[C]? = some (.cells (bcs 0 (part' b k) m') 75 (0, 0)) := (hf.block C hC (fun h => h)).trans h.cell
  have hne : ∀ i y, i ≤ 66 → (i < k ∨ 65 ≤ i) → m' i = some y → y ≠ C := by
    intro i y hi hik hy e
    subst e
    have := h.map i hi hik
    rw [hy] at this
    obtain ⟨D, ⟨es, c, hcc, _⟩, _⟩ := this
    rw [h.cell] at hcc
    cases hcc
  obtain ⟨y, hy⟩ : ∃ y, v = some y := by obtain ⟨y, hy⟩ := hx; exact hc.2.2.1 y hy
  have hylo : w0.heap.size ≤ y := hc.2.1 y hy
  have hw0 := h0.size
  refine ⟨?_, fun i hi hik => ?_, fun i hki hi => ?_, fun i hi hik => ?_, fun i j z hi hj h1 h2 => ?_, fun i z hi hz => ?_, fun i z hi hz => ?_⟩
  · rw [heap_setCell_same _ C (4 + k * 2 + 1) _ _ _ (heap_setCell_same _ C (4 + k * 2) _ _ _ hc'), part_set b m' k hk]
  · by_cases e : i = k
    · subst e
      rw [upd_same]
      refine hc.1.fr hp (fun z hz ez => ?_)
      rw [hy] at hz
      cases hz
      omega
    · rw [upd_other _ _ e]
      exact ((h.map i hi (by omega)).fr hf (fun _ _ h => h)).fr hp (fun z hz => hne i z hi (by omega) hz)
  · rw [upd_other _ _ (by omega)]
    exact h.non i (by omega) hi
  · by_cases e : i = k
    · subst e
      rw [upd_same]
      exact ⟨y, hy⟩
    · rw [upd_other _ _ e]
      exact h.som i hi (by omega)
  · by_cases e1 : i = k
    · by_cases e2 : j = k
      · omega
      · subst e1
        rw [upd_same, hy] at h1
        cases h1
        rw [upd_other _ _ e2] at h2
        have := h.lt j _ hj h2
        omega
    · rw [upd_other _ _ e1] at h1
      by_cases e2 : j = k
      · subst e2
        rw [upd_same, hy] at h2
        cases h2
        have := h.lt i _ hi h1
        omega
      · rw [upd_other _ _ e2] at h2
        exact h.apart i j z hi hj h1 h2
  · by_cases e1 : i = k
    · subst e1
      rw [upd_same, hy] at hz
      cases hz
      omega
    · rw [upd_other _ _ e1] at hz
      exact h.lo i z hi hz
  · rw [hs]
    by_cases e1 : i = k
    · subst e1
      rw [upd_same, hy] at hz
      cases hz
      have := hc.1
      rw [hy] at this
      exact Ms.lt this
    · rw [upd_other _ _ e1] at hz
      exact Nat.lt_of_lt_of_le (h.lt i z hi hz) hf.size
theorem Ht.done {w : World} {C : Nat} {m' : Nat → Option Nat} {b : Bo} {base : Nat} (h : Ht w C m' b base 65) (hw : Wf b) : Bk w 0 C m' b := by
  refine ⟨?_, fun i hi => h.map i hi (by omega), fun i hi => h.som i hi (by omega), h.apart, hw⟩
  have : bcs 0 (part' b 65) m' = bcs 0 b m' := by
    unfold bcs
    congr 1
  rw [← this]
  exact h.cell

set_option maxHeartbeats 4000000 in
set_option maxRecDepth 100000 in
theorem twinM_any {w : World} {B : Nat} {m : Nat → Option Nat} {b : Bo} (h : Bk w 0 B m b) :
    Calls Try.prog 12 #[.pointer (some ⟨B, 0, none⟩)] w fun e w' => ∃ C, e = .returned (.pointer (some ⟨C, 0, none⟩)) ∧ ∃ m', Bk w' 0 C m' b ∧ (∀ k, ow C m' k → w.heap.size ≤ k) ∧ Fr w w' (fun _ => False) := by
  have H := hid h
  clear h
  go_enter_defers Try.func12, Try.ntmps12
  go_wp2_with fail
  refine (lock_any H.out).mono ?_
  rintro e w2 ⟨rfl, hb1, hf1⟩
  have HB := hid hb1
  have HF := hid hf1
  have hlt := hb1.lt
  have HC : Hid (∀ W', Fr w2 W' (fun _ => False) → W'.cell? ⟨B, 2, none⟩ = some (.int .i64 b.pins) ∧ W'.cell? ⟨B, 3, none⟩ = some (.int .i64 b.now)) := fun W' hf => ⟨(hb1.step hf).get (by omega), (hb1.step hf).get (by omega)⟩
  have HE : Hid (∀ W, Fr w2 W (fun _ => False) → Calls Try.prog 34 #[.pointer (some ⟨B, 134, none⟩)] W fun e w' => ∃ m5 m6, e = .returned (.agg #[.map m5, .map m6, .bool b.begun]) ∧ Cl W w' (m 65) m5 (b.sets 65) ∧ Cl W w' (m 66) m6 (b.sets 66) ∧ (∀ y, m5 = some y → m6 ≠ some y)) := fun W hf => etwin_any (hb1.step hf)
  have HS5 := hid (hb1.som 65 (by omega))
  clear hb1 hf1
  obtain ⟨c2, c3⟩ := HC.out w2 (Fr.refl _ _)
  go_wp2_with fail
  have HF0 := hid (Fr.refl w2 (fun _ => False))
  go_cut [3] from 13 to 26 (fun s wx => ∃ C, s = .pointer (some ⟨C, 0, none⟩) ∧ Hid (∃ m', Ht wx C m' b w2.heap.size 0 ∧ w2.heap.size ≤ C ∧ Fr w2 wx (fun _ => False)))
  case first =>
    go_region_held3 (fun W' => Hid (Fr w2 W' (fun _ => False)) ∧ W'.cell? ⟨B, 2, none⟩ = some (.int .i64 b.pins) ∧ W'.cell? ⟨B, 3, none⟩ = some (.int .i64 b.now))
      ((refine (fun h => ⟨h, HC.out _ h⟩ : Fr w2 _ (fun _ => False) → _) ?_; repeat (first | with_reducible exact HF0.out | with_reducible exact Fr.refl _ _ | with_reducible apply Fr.drew | with_reducible apply Fr.alloc)))
      ((first
        | (go_at_call 34; refine (HE.out _ (by repeat (first | with_reducible exact HF0.out | with_reducible exact Fr.refl _ _ | with_reducible apply Fr.drew | with_reducible apply Fr.alloc))).mono ?_; rintro e w3 ⟨m5, m6, rfl, h5, h6, hap⟩; have H5 := hid (h5.from (a := w2) (by repeat (first | with_reducible exact HF0.out | with_reducible exact Fr.refl _ _ | with_reducible apply Fr.drew | with_reducible apply Fr.alloc))); have H6 := hid (h6.from (a := w2) (by repeat (first | with_reducible exact HF0.out | with_reducible exact Fr.refl _ _ | with_reducible apply Fr.drew | with_reducible apply Fr.alloc))); have HAp := hid hap; have HF0 := hid H5.out.fr; clear h5 h6 hap)))
    all_goals (go_wp2_with fail)
    all_goals go_meet
    all_goals (
      refine ⟨w3.heap.size, rfl, upd (upd (fun _ => none) 65 m5) 66 m6, ?_, HF0.out.size, HF0.out.alloc _⟩
      rw [twin_cells]
      exact ht_start H5.out H6.out HS5.out HAp.out)
  case rest =>
    obtain ⟨C, rfl, HX⟩ := hcut
    have HFX : Hid (Fr w2 wc (fun _ => False)) := by obtain ⟨_, _, _, hf⟩ := HX.out; exact hf
    have hbX := HB.out.step HFX.out
    have HBX := hid hbX
    have HRg := hid hbX.range
    have HNF := hid (hands_info 1 b m)
    have HXI := hid (hand_at 1 b m)
    have hltX := hbX.lt
    have HM : Hid (∃ m', Ht wc C m' b w2.heap.size 0) := by obtain ⟨m', h1, _⟩ := HX.out; exact ⟨m', h1⟩
    have HCL : Hid (w2.heap.size ≤ C) := by obtain ⟨m', _, h2, _⟩ := HX.out; exact h2
    generalize hcs 1 b m = hv at *
    clear hbX HX c2 c3
    go_wp2_with (refine wpList_load_mid rfl 73 (.tmp 29) rfl B 4 rfl hv _ HRg.out Try.underlying73 rfl HNF.out ?_)
    go_loopg [31] 65 (fun g s31 wx => ∃ i : Nat, s31 = .int .i64 (i : Int) ∧ i + g = 65 ∧ Hid (∃ m', Ht wx C m' b w2.heap.size i) ∧ Hid (Fr w2 wx (fun _ => False)))
    case atStart => exact ⟨0, rfl, rfl, HM, HFX⟩
    case round =>
      obtain ⟨i, rfl, hg, HMi, HFi⟩ := hrel
      cases gk with
      | zero =>
        have t1 : ¬ (i : Int) < 65 := by omega
        have HI := hid (show i = 65 by omega)
        clear hg
        go_wp2_with fail
        refine leaves_cons (f := 33) (args := #[.pointer (some ⟨B, 0, none⟩)]) (by simp) (by simp [go_sem]) ?_
        refine (unlock_any (HB.out.step HFi.out) .returning).mono ?_
        rintro eZ uZ wZ ⟨rfl, rfl, hbZ, hfZ⟩
        refine ⟨_, results_tmp rfl _ _ _, ?_⟩
        obtain ⟨m', hm'⟩ := HMi.out
        rw [HI.out] at hm'
        have hk := hm'.done HB.out.wf
        have hsz := HF.out.size
        refine ⟨C, rfl, m', hk.fr hfZ (fun k hk' e => ?_), fun k hk' => ?_, H.out.same hbZ ((HF.out.trans (HFi.out.mono (fun _ _ h => h.elim))).trans hfZ)⟩
        · have h0 := H.out.lt
          rcases hk' with rfl | ⟨j, hj, hk'⟩
          · have := HCL.out; omega
          · have := hm'.lo j k hj hk'; omega
        · rcases hk' with rfl | ⟨j, hj, hk'⟩
          · have := HCL.out; omega
          · have := hm'.lo j k hj hk'; omega
      | succ g =>
        have hi : i < 65 := by omega
        have t1 : (i : Int) < 65 := by omega
        have hix := fun W => HXI.out W i hi
        obtain ⟨m', hm'⟩ := HMi.out
        have HG := hid hg
        have HI := hid hi
        have HM' := hid hm'
        have HSi := hid (HB.out.som i (by omega))
        have HT : Hid (∀ W, Fr w2 W (fun _ => False) → Calls Try.prog 35 #[.agg #[.map (m i), .int .i64 (b.inn i)]] W fun e w' => ∃ m', e = .returned (.agg #[.map m', .int .i64 (b.inn i)]) ∧ Cl W w' (m i) m' (b.sets i)) := fun W hf => htwin_any ((HB.out.map i (by omega)).fr hf (fun _ _ h => h)) (b.inn i)
        clear hg hm'
        go_wp2_with fail
        have hCl : C < wr.heap.size := lt_of_block HM'.out.cell
        have HA := hid (alloc_fr wr (.cells #[.map (m i), .int .i64 (b.inn i)] 72) (fun _ => False))
        have hNw := heap_alloc_new wr (.cells #[.map (m i), .int .i64 (b.inn i)] 72)
        generalize wr.alloc (.cells #[.map (m i), .int .i64 (b.inn i)] 72) = wa at *
        obtain ⟨n0, n1⟩ := cells2 hNw
        have hNl := lt_of_block hNw
        have HCB : Hid (∀ W, Fr wa W (fun k => k = C) → W.cell? ⟨wr.heap.size, 0, none⟩ = some (.map (m i)) ∧ W.cell? ⟨wr.heap.size, 1, none⟩ = some (.int .i64 (b.inn i))) := fun W hf => by
          have hk := hf.block wr.heap.size hNl (by omega)
          exact ⟨(World.cell?_of_block (w := wa) (w' := W) (a := ⟨wr.heap.size, 0, none⟩) hk).trans n0, (World.cell?_of_block (w := wa) (w' := W) (a := ⟨wr.heap.size, 1, none⟩) hk).trans n1⟩
        have HF0 := hid (Fr.refl wa (fun _ => False))
        have HF1 := hid (Fr.refl wa (fun k => k = C))
        have HCC : Hid (∀ W, Fr wa W (fun _ => False) → (W.cell? ⟨C, 4 + i * 2, none⟩ = some (.map (m' i)) ∧ W.cell? ⟨C, 4 + i * 2 + 1, none⟩ = some (.int .i64 ((part' b i).inn i))) ∧ (∀ o, W.frozen? ⟨C, o, none⟩ = false) ∧ C < W.heap.size) := fun W hf => by
          have hh := HM'.out.fr (HA.out.trans hf)
          refine ⟨⟨?_, ?_⟩, free_of hh.cell, lt_of_block hh.cell⟩
          · rw [cell_of_row W C _ _ _ (0, 0) hh.cell, bcs_get (by omega), bc_map HI.out]
          · rw [cell_of_row W C _ _ _ (0, 0) hh.cell, bcs_get (by omega), bc_inn HI.out]
        have t2 : (i : Int) < 65 := by have := HI.out; omega
        clear hNw hix
        go_region_held3 (fun W' => Hid (Fr wa W' (fun k => k = C)) ∧ (W'.cell? ⟨wr.heap.size, 0, none⟩ = some (.map (m i)) ∧ W'.cell? ⟨wr.heap.size, 1, none⟩ = some (.int .i64 (b.inn i))))
          ((refine (fun h => ⟨h, HCB.out _ h⟩ : Fr wa _ (fun k => k = C) → _) ?_; repeat (first | with_reducible exact HF1.out | with_reducible exact Fr.refl _ _ | with_reducible apply Fr.drew | with_reducible apply Fr.alloc | with_reducible apply fr_pk)))
          ((first
            | (go_at_call 35; refine (HT.out _ (HFi.out.trans (HA.out.trans (by repeat (first | with_reducible exact HF0.out | with_reducible exact Fr.refl _ _ | with_reducible apply Fr.drew | with_reducible apply Fr.alloc))))).mono ?_; rintro e w1 ⟨v', rfl, hc⟩; have HF0 := hid (Fr.trans (a := wa) (by repeat (first | with_reducible exact HF0.out | with_reducible exact Fr.refl _ _ | with_reducible apply Fr.drew | with_reducible apply Fr.alloc)) hc.fr); have HF1 := hid (HF0.out.mono (T := fun k => k = C) (fun _ _ h => h.elim)); have HCl := hid (hc.from (a := wa) (by repeat (first | with_reducible exact Fr.refl _ _ | with_reducible apply Fr.drew | with_reducible apply Fr.alloc))); obtain ⟨⟨k0, k1⟩, k2, k3⟩ := HCC.out _ HF0.out; clear hc)))
        all_goals (go_wp2_with fail)
        all_goals go_roundg g
        all_goals first
          | (case rel =>
              refine ⟨i + 1, by simp, by have := HG.out; omega, ⟨_, HM'.out.next HI.out HCl.out HA.out HFi.out.size HSi.out⟩, ?_⟩
              have hp := (fr_poke w1 C (4 + i * 2) (.map v')).trans (fr_poke _ C (4 + i * 2 + 1) (.int .i64 (b.inn i)))
              refine ((HFi.out.trans HA.out).trans HF0.out).trans2 hp (fun k hk e => ?_)
              have := HCL.out
              omega)
          | (case measure => omega)
end Go.Proofs.Ytekooeekaigmaaa.E
