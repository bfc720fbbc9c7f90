/- Twin: the walk. -/
import Derived.Test.YtekooeekaigmaaaEOps7
import Derived.Shelf.SlMaps.Clone
import Derived.Ground.SlmcProg
namespace Go.Proofs.Ytekooeekaigmaaa.E
open Go.RowKit Go.Maps Go.MuLone Go.Shelf

shelf_lay_g SlLaysW.n5 Slmc 5 at Try 81 as cloneL

theorem fr_pk {a w : World} {N p : Nat} {v : Value} (h : Fr a w (fun k => k = N)) : Fr a (w.setCell ⟨N, p, none⟩ v) (fun k => k = N) := h.trans (fr_poke _ _ _ _)
/-- A map like another one, of the call's own. -/
def Cl (w w' : World) (m m' : Option Nat) (l : List Int) : Prop := Mo w' m' l ∧ (∀ x, m' = some x → w.heap.size ≤ x) ∧ (∀ x, m = some x → ∃ y, m' = some y) ∧ Fr w w' (fun _ => False)
theorem Cl.fr {w w' : World} {m m' : Option Nat} {l : List Int} (h : Cl w w' m m' l) : Fr w w' (fun _ => False) := h.2.2.2
theorem Cl.step {w w' w'' : World} {m m' : Option Nat} {l : List Int} (h : Cl w w' m m' l) (hf : Fr w' w'' (fun _ => False)) : Cl w w'' m m' l := ⟨h.1.fr hf (fun _ _ h => h), h.2.1, h.2.2.1, h.2.2.2.trans hf⟩
theorem Cl.from {a w w' : World} {m m' : Option Nat} {l : List Int} (h : Cl w w' m m' l) (hf : Fr a w (fun _ => False)) : Cl a w' m m' l := ⟨h.1, fun x hx => Nat.le_trans hf.size (h.2.1 x hx), h.2.2.1, hf.trans h.2.2.2⟩
set_option maxHeartbeats 1000000 in
theorem stwin_any {w : World} {m : Option Nat} {l : List Int} (h : Mo w m l) :
    Calls Try.prog 63 #[.map m] w fun e w' => ∃ m', e = .returned (.map m') ∧ Cl w w' m m' l := by
  cases m with
  | none =>
    have h' : l = [] := h
    subst h'
    go_enter Try.func63, Try.ntmps63
    go_wp2_with fail
    refine (AnyW.maps_Clone_nil cloneL w).mono ?_
    rintro e w1 ⟨rfl, rfl⟩
    go_wp2_with fail
    go_ret
    exact ⟨none, rfl, rfl, (fun x hx => by cases hx), (fun x hx => by cases hx), Fr.refl _ _⟩
  | some b =>
    have h' : Ms w b l := h
    obtain ⟨D, ⟨es, clock, hb, F, hs, hD⟩, h2, h3⟩ := h'
    have HF := hid F
    have HS := hid hs
    have HD := hid hD
    have H2 := hid h2
    have H3 := hid h3
    clear h h2 h3 F hs hD
    go_enter Try.func63, Try.ntmps63
    go_wp2_with fail
    refine (AnyW.maps_Clone cloneL b es clock w hb).mono ?_
    rintro e w1 ⟨rfl, rfl⟩
    go_wp2_with fail
    go_ret
    exact ⟨some w.heap.size, rfl, ⟨D, ⟨es, clock, heap_alloc_new w _, HF.out, HS.out, HD.out⟩, H2.out, H3.out⟩, (fun x hx => by cases hx; exact Nat.le_refl _), (fun x _ => ⟨_, rfl⟩), alloc_fr _ _ _⟩

theorem cells2 {W : World} {N : Nat} {x y : Value} {t : TypeId} (h : W.heap[N]? = some (.cells #[x, y] t (0, 0))) : W.cell? ⟨N, 0, none⟩ = some x ∧ W.cell? ⟨N, 1, none⟩ = some y := by
  refine ⟨?_, ?_⟩ <;> (rw [cell_of_row W N _ _ _ (0, 0) h]; rfl)
theorem cells3 {W : World} {N : Nat} {x y z : Value} {t : TypeId} (h : W.heap[N]? = some (.cells #[x, y, z] t (0, 0))) : W.cell? ⟨N, 0, none⟩ = some x ∧ W.cell? ⟨N, 1, none⟩ = some y ∧ W.cell? ⟨N, 2, none⟩ = some z := by
  refine ⟨?_, ?_, ?_⟩ <;> (rw [cell_of_row W N _ _ _ (0, 0) h]; rfl)
theorem free_of {W : World} {N : Nat} {cs : Array Value} {t : TypeId} (h : W.heap[N]? = some (.cells cs t (0, 0))) (o : Nat) : W.frozen? ⟨N, o, none⟩ = false := by simp [World.frozen?, h]
theorem set2 {w : World} {N : Nat} {a b x y : Value} {e : TypeId} (h : w.heap[N]? = some (.cells #[a, b] e (0, 0))) : ((w.setCell ⟨N, 0, none⟩ x).setCell ⟨N, 1, none⟩ y).heap[N]? = some (.cells #[x, y] e (0, 0)) := by
  rw [heap_setCell_same _ N 1 _ _ y (heap_setCell_same w N 0 _ _ x h)]
  rfl
theorem set3 {w : World} {N : Nat} {a b c x y z : Value} {e : TypeId} (h : w.heap[N]? = some (.cells #[a, b, c] e (0, 0))) : (((w.setCell ⟨N, 0, none⟩ x).setCell ⟨N, 1, none⟩ y).setCell ⟨N, 2, none⟩ z).heap[N]? = some (.cells #[x, y, z] e (0, 0)) := by
  rw [heap_setCell_same _ N 2 _ _ z (heap_setCell_same _ N 1 _ _ y (heap_setCell_same w N 0 _ _ x h))]
  rfl
theorem resH {fn : Func} {t : Tmp} (h : fn.results = #[.cell t 72]) (tmps : Array Value) (W : World) {N : Nat} {x y : Value} (h2 : tmps.getD t undef = .pointer (some ⟨N, 0, none⟩)) (hB : W.heap[N]? = some (.cells #[x, y] 72 (0, 0))) :
    (results fn tmps).run Try.prog W = .ok (.agg #[x, y]) W := by
  obtain ⟨c0, c1⟩ := cells2 hB
  rw [Array.getD_eq_getD_getElem?] at h2
  simp [results, h, h2, go_sem, c0, c1]
theorem resE {fn : Func} {t : Tmp} (h : fn.results = #[.cell t 63]) (tmps : Array Value) (W : World) {N : Nat} {x y z : Value} (h2 : tmps.getD t undef = .pointer (some ⟨N, 0, none⟩)) (hB : W.heap[N]? = some (.cells #[x, y, z] 63 (0, 0))) :
    (results fn tmps).run Try.prog W = .ok (.agg #[x, y, z]) W := by
  obtain ⟨c0, c1, c2⟩ := cells3 hB
  rw [Array.getD_eq_getD_getElem?] at h2
  simp [results, h, h2, go_sem, c0, c1, c2]

set_option maxHeartbeats 2000000 in
set_option maxRecDepth 100000 in
theorem htwin_any {w : World} {m : Option Nat} {l : List Int} (h : Mo w m l) (x : Int) :
    Calls Try.prog 35 #[.agg #[.map m, .int .i64 x]] w fun e w' => ∃ m', e = .returned (.agg #[.map m', .int .i64 x]) ∧ Cl w w' m m' l := by
  have HC : Hid (∀ W, Fr ((w.alloc (.cells #[.map m, .int .i64 x] 72)).alloc (.cells #[.map none, .int .i64 0] 72)) W (fun _ => False) → (W.cell? ⟨w.heap.size, 0, none⟩ = some (.map m) ∧ W.cell? ⟨w.heap.size, 1, none⟩ = some (.int .i64 x)) ∧ W.heap[w.heap.size + 1]? = some (.cells #[.map none, .int .i64 0] 72 (0, 0))) := fun W hf => by
    have b1 : ((w.alloc (.cells #[.map m, .int .i64 x] 72)).alloc (.cells #[.map none, .int .i64 0] 72)).heap[w.heap.size]? = some (.cells #[.map m, .int .i64 x] 72 (0, 0)) := by
      rw [Below.heap_alloc _ _ _ (by simp)]
      exact heap_alloc_new w _
    have b2 : ((w.alloc (.cells #[.map m, .int .i64 x] 72)).alloc (.cells #[.map none, .int .i64 0] 72)).heap[w.heap.size + 1]? = some (.cells #[.map none, .int .i64 0] 72 (0, 0)) := by
      have := heap_alloc_new (w.alloc (.cells #[.map m, .int .i64 x] 72)) (.cells #[.map none, .int .i64 0] 72)
      simpa using this
    exact ⟨cells2 ((hf.block _ (lt_of_block b1) (fun h => h)).trans b1), (hf.block _ (lt_of_block b2) (fun h => h)).trans b2⟩
  have HT : Hid (∀ W, Fr w W (fun _ => False) → Calls Try.prog 63 #[.map m] W fun e w' => ∃ m', e = .returned (.map m') ∧ Cl W w' m m' l) := fun W hf => stwin_any (h.fr hf (fun _ _ h => h))
  have HA := hid ((alloc_fr w (.cells #[.map m, .int .i64 x] 72) (fun _ => False)).alloc (.cells #[.map none, .int .i64 0] 72))
  clear h
  go_enter Try.func35, Try.ntmps35
  go_wp2_with fail
  generalize (w.alloc (.cells #[.map m, .int .i64 x] 72)).alloc (.cells #[.map none, .int .i64 0] 72) = wa at *
  obtain ⟨⟨c0, c1⟩, hN⟩ := HC.out wa (Fr.refl _ _)
  have HF0 := hid (Fr.refl wa (fun _ => False))
  have z0 := (cells2 hN).1
  have z1 := (cells2 hN).2
  have hlN := lt_of_block hN
  have HC1 : Hid (∀ W, Fr wa W (fun k => k = w.heap.size + 1) → W.cell? ⟨w.heap.size, 0, none⟩ = some (.map m) ∧ W.cell? ⟨w.heap.size, 1, none⟩ = some (.int .i64 x)) := fun W hf => by
    have hk := hf.block w.heap.size (by have := World.block_lt_of_cell? wa _ c0; exact this) (by omega)
    exact ⟨(World.cell?_of_block (w := wa) (w' := W) (a := ⟨w.heap.size, 0, none⟩) hk).trans c0, (World.cell?_of_block (w := wa) (w' := W) (a := ⟨w.heap.size, 1, none⟩) hk).trans c1⟩
  have HF1 := hid (Fr.refl wa (fun k => k = w.heap.size + 1))
  go_region_held3 (fun W' => Hid (Fr wa W' (fun k => k = w.heap.size + 1)) ∧ (W'.cell? ⟨w.heap.size, 0, none⟩ = some (.map m) ∧ W'.cell? ⟨w.heap.size, 1, none⟩ = some (.int .i64 x)))
    ((refine (fun h => ⟨h, HC1.out _ h⟩ : Fr wa _ (fun k => k = w.heap.size + 1) → _) ?_; repeat (first | with_reducible exact HF1.out | with_reducible exact Fr.refl _ _ | with_reducible apply Fr.drew | with_reducible apply Fr.alloc | with_reducible apply fr_pk)))
    ((first
      | (go_at_call 63; refine (HT.out _ (HA.out.trans (by repeat (first | with_reducible exact HF0.out | with_reducible exact Fr.refl _ _ | with_reducible apply Fr.drew | with_reducible apply Fr.alloc)))).mono ?_; rintro e w1 ⟨m', rfl, hc⟩; have HF0 := hid (Fr.trans (a := wa) (by repeat (first | with_reducible exact HF0.out | with_reducible exact Fr.refl _ _ | with_reducible apply Fr.drew | with_reducible apply Fr.alloc)) hc.fr); have HF1 := hid (HF0.out.mono (T := fun k => k = w.heap.size + 1) (fun _ _ h => h.elim)); have HCl := hid (hc.from (a := wa) (by repeat (first | with_reducible exact Fr.refl _ _ | with_reducible apply Fr.drew | with_reducible apply Fr.alloc))); have z2 := (cells2 (HC.out _ HF0.out).2).1; have z3 := (cells2 (HC.out _ HF0.out).2).2; have f0 := free_of (HC.out _ HF0.out).2; have hl1 := lt_of_block (HC.out _ HF0.out).2; clear hc)))
  all_goals (go_wp2_with fail)
  all_goals refine bodyPost_ret (resH Try.results35 _ _ rfl (set2 (HC.out _ HF0.out).2)) rfl ?_
  all_goals (
    have hlo : w.heap.size ≤ wa.heap.size := HA.out.size
    have hd := ((fr_poke w1 (w.heap.size + 1) 0 (.map m')).trans (fr_poke _ (w.heap.size + 1) 1 (.int .i64 x)))
    refine ⟨m', rfl, HCl.out.1.fr hd (fun y hy e => ?_), fun y hy => Nat.le_trans hlo (HCl.out.2.1 y hy), HCl.out.2.2.1, (HA.out.trans HF0.out).trans2 hd (fun k hk e => by omega)⟩
    have h1 := HCl.out.2.1 y hy
    omega)

set_option maxHeartbeats 2000000 in
set_option maxRecDepth 100000 in
theorem etwin_any {w : World} {lk : Int} {B : Nat} {m : Nat → Option Nat} {b : Bo} (h : Bk w lk B m b) :
    Calls Try.prog 34 #[.pointer (some ⟨B, 134, none⟩)] w fun e w' => ∃ m5 m6, e = .returned (.agg #[.map m5, .map m6, .bool b.begun]) ∧ Cl w w' (m 65) m5 (b.sets 65) ∧ Cl w w' (m 66) m6 (b.sets 66) ∧ (∀ y, m5 = some y → m6 ≠ some y) := by
  have HC : Hid (∀ W, Fr (w.alloc (.cells #[.map none, .map none, .bool false] 63)) W (fun k => k = w.heap.size) → (W.cell? ⟨B, 134, none⟩ = some (.map (m 65)) ∧ W.cell? ⟨B, 135, none⟩ = some (.map (m 66)) ∧ W.cell? ⟨B, 136, none⟩ = some (.bool b.begun))) := fun W hf => by
    have hb := h.fr ((alloc_fr w (.cells #[.map none, .map none, .bool false] 63) (fun k => k = w.heap.size)).trans hf) (fun k hk e => by have := h.ow_lt hk; omega)
    exact ⟨hb.get (by omega), hb.get (by omega), hb.get (by omega)⟩
  have HN : Hid (∀ W, Fr (w.alloc (.cells #[.map none, .map none, .bool false] 63)) W (fun _ => False) → W.heap[w.heap.size]? = some (.cells #[.map none, .map none, .bool false] 63 (0, 0))) := fun W hf => (hf.block _ (by simp) (fun h => h)).trans (heap_alloc_new w _)
  have HT : Hid (∀ i W, i ≤ 66 → Fr w W (fun _ => False) → Calls Try.prog 63 #[.map (m i)] W fun e w' => ∃ m', e = .returned (.map m') ∧ Cl W w' (m i) m' (b.sets i)) := fun i W hi hf => stwin_any ((h.map i hi).fr hf (fun _ _ h => h))
  have HA := hid (alloc_fr w (.cells #[.map none, .map none, .bool false] 63) (fun _ => False))
  have hlt := h.lt
  clear h
  go_enter Try.func34, Try.ntmps34
  go_wp2_with fail
  have hsz : (w.alloc (.cells #[.map none, .map none, .bool false] 63)).heap.size = w.heap.size + 1 := by simp
  generalize w.alloc (.cells #[.map none, .map none, .bool false] 63) = wa at *
  obtain ⟨c4, c5, c6⟩ := HC.out wa (Fr.refl _ _)
  have hN := HN.out wa (Fr.refl _ _)
  have HF0 := hid (Fr.refl wa (fun _ => False))
  have HF1 := hid (Fr.refl wa (fun k => k = w.heap.size))
  have tok1 : Hid (0 = 0) := rfl
  have HSZ := hid hsz
  clear hsz hN
  go_region_held3 (fun W' => Hid (Fr wa W' (fun k => k = w.heap.size)) ∧ (W'.cell? ⟨B, 134, none⟩ = some (.map (m 65)) ∧ W'.cell? ⟨B, 135, none⟩ = some (.map (m 66)) ∧ W'.cell? ⟨B, 136, none⟩ = some (.bool b.begun)))
    ((refine (fun h => ⟨h, HC.out _ h⟩ : Fr wa _ (fun k => k = w.heap.size) → _) ?_; repeat (first | with_reducible exact HF1.out | with_reducible exact Fr.refl _ _ | with_reducible apply Fr.drew | with_reducible apply Fr.alloc | with_reducible apply fr_pk)))
    ((first
      | (go_at_call 63; have _t := tok1; refine (HT.out 65 _ (by omega) (HA.out.trans (by repeat (first | with_reducible exact HF0.out | with_reducible exact Fr.refl _ _ | with_reducible apply Fr.drew | with_reducible apply Fr.alloc)))).mono ?_; rintro e w1 ⟨m5, rfl, hc⟩; have HF0 := hid (Fr.trans (a := wa) (by repeat (first | with_reducible exact HF0.out | with_reducible exact Fr.refl _ _ | with_reducible apply Fr.drew | with_reducible apply Fr.alloc)) hc.fr); have HF1 := hid (HF0.out.mono (T := fun k => k = w.heap.size) (fun _ _ h => h.elim)); have HC5 := hid (hc.from (a := wa) (by repeat (first | with_reducible exact Fr.refl _ _ | with_reducible apply Fr.drew | with_reducible apply Fr.alloc))); clear hc tok1 _t)
      | (go_at_call 63; refine (HT.out 66 _ (by omega) (HA.out.trans (by repeat (first | with_reducible exact HF0.out | with_reducible exact Fr.refl _ _ | with_reducible apply Fr.drew | with_reducible apply Fr.alloc)))).mono ?_; rintro e w2 ⟨m6, rfl, hc⟩; have HAp := hid (hc.2.1); have HC6 := hid (hc.from (a := wa) (by repeat (first | with_reducible exact HF0.out | with_reducible exact Fr.refl _ _ | with_reducible apply Fr.drew | with_reducible apply Fr.alloc))); have HL5 := hid HC5.out.1; have HC5 := hid (HC5.out.step (Fr.trans (a := w1) (by repeat (first | with_reducible exact Fr.refl _ _ | with_reducible apply Fr.drew | with_reducible apply Fr.alloc)) hc.fr)); have HF0 := hid HC5.out.fr; have HF1 := hid (HF0.out.mono (T := fun k => k = w.heap.size) (fun _ _ h => h.elim)); have z0 := (cells3 (HN.out _ HF0.out)).1; have z1 := (cells3 (HN.out _ HF0.out)).2.1; have z2 := (cells3 (HN.out _ HF0.out)).2.2; have f0 := free_of (HN.out _ HF0.out); have hl1 := lt_of_block (HN.out _ HF0.out); clear hc)))
  all_goals (go_wp2_with fail)
  all_goals refine bodyPost_ret (resE Try.results34 _ _ rfl (set3 (HN.out _ HF0.out))) rfl ?_
  all_goals (
    have hlo : w.heap.size ≤ wa.heap.size := HA.out.size
    have hz := HSZ.out
    have hd := (((fr_poke w2 w.heap.size 0 (.map m5)).trans (fr_poke _ w.heap.size 1 (.map m6))).trans (fr_poke _ w.heap.size 2 (.bool b.begun)))
    refine ⟨m5, m6, rfl, ⟨HC5.out.1.fr hd (fun y hy e => ?_), fun y hy => Nat.le_trans hlo (HC5.out.2.1 y hy), HC5.out.2.2.1, (HA.out.trans HF0.out).trans2 hd (fun k hk e => by omega)⟩, ⟨HC6.out.1.fr hd (fun y hy e => ?_), fun y hy => Nat.le_trans hlo (HC6.out.2.1 y hy), HC6.out.2.2.1, (HA.out.trans HF0.out).trans2 hd (fun k hk e => by omega)⟩, fun y hy hy' => ?_⟩
    · have h1 := HC5.out.2.1 y hy
      omega
    · have h1 := HC6.out.2.1 y hy
      omega
    · have h1 := HAp.out y hy'
      have h2 := HL5.out
      rw [hy] at h2
      have h3 := Ms.lt h2
      first | omega | (simp at h1; omega))
end Go.Proofs.Ytekooeekaigmaaa.E
