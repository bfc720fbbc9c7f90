/- The law's few: a walk. -/
import Derived.Test.YtcjadgnefojjgabDoorSEdge
namespace Go.Proofs.YtcjadgnefojjgabDoor.S
open Go.RowKit G

def fewK (k : ByteArray) : ByteArray := if k.size = 0 then ⟨#[107]⟩ else str8 [97 + (k.data.getD 0 0).toNat % 4]
/-- A cell of a few. -/
def fewC (c : Cl) : Cl := ⟨c.v % 2, fewK c.k, c.s.tmod 3⟩
theorem fewK_size (k : ByteArray) : (fewK k).size = 1 := by
  unfold fewK
  split
  · rfl
  · rw [str8_size]; rfl
theorem few_may (c : Cl) : mayE (fewC c) = 0 := by
  have h1 : -3 < c.s.tmod 3 := Int.lt_tmod_of_pos c.s (by decide)
  have h2 : c.s.tmod 3 < 3 := Int.tmod_lt_of_pos c.s (by decide)
  unfold mayE fewC
  dsimp only
  rw [fewK_size, if_neg (by omega), if_neg (by omega), if_neg (by omega)]

set_option maxHeartbeats 4000000 in
set_option maxRecDepth 100000 in
theorem few_any (c : Cl) (w : World) (hk : c.k.size ≤ 9223372036854775807) :
    Calls Tryd.prog 5 #[.agg #[.int .i64 c.v, .string c.k, .int .i64 c.s]] w fun r w' => r = .returned (.agg #[.int .i64 (fewC c).v, .string (fewC c).k, .int .i64 (fewC c).s]) ∧ Fr w w' (fun _ => False) := by
  obtain ⟨v, k, s⟩ := c
  unfold fewC
  dsimp only at hk ⊢
  have HW := hid (fun W => within_any v 2 (by decide) (by decide) W)
  have q1 : (3 : Int) ≠ 0 := by decide
  by_cases h0 : k.size = 0
  · rw [show fewK k = ⟨#[107]⟩ by unfold fewK; rw [if_pos h0]]
    have t0 : ¬ (0 : Int) < (k.size : Int) := by omega
    go_enter Tryd.func5, Tryd.ntmps5
    go_wp2_with fail
    have HB : Hid (((w.alloc (.cells #[.int .i64 v, .string k, .int .i64 s] 23)).alloc (.cells #[.int .i64 0, .string ⟨#[]⟩, .int .i64 0] 23)).heap[w.heap.size]? = some (.cells #[.int .i64 v, .string k, .int .i64 s] 23 (0, 0)) ∧ ((w.alloc (.cells #[.int .i64 v, .string k, .int .i64 s] 23)).alloc (.cells #[.int .i64 0, .string ⟨#[]⟩, .int .i64 0] 23)).heap[w.heap.size + 1]? = some (.cells #[.int .i64 0, .string ⟨#[]⟩, .int .i64 0] 23 (0, 0))) := ⟨(Below.heap_alloc _ _ _ (by simp)).trans (heap_last _ _ _ rfl), heap_last _ _ _ (by simp)⟩
    have HFw : Hid (Fr w ((w.alloc (.cells #[.int .i64 v, .string k, .int .i64 s] 23)).alloc (.cells #[.int .i64 0, .string ⟨#[]⟩, .int .i64 0] 23)) (fun _ => False)) := (alloc_fr w _ _).alloc _
    generalize ((w.alloc (.cells #[.int .i64 v, .string k, .int .i64 s] 23)).alloc (.cells #[.int .i64 0, .string ⟨#[]⟩, .int .i64 0] 23)) = wa at *
    have HK := hid (fun (W' : World) (hf : Fr wa W' (fun b => b = w.heap.size + 1)) => cells3 ((hf.block _ (lt_of_block HB.out.1) (by omega)).trans HB.out.1))
    obtain ⟨k0, k1, k2⟩ := HK.out wa (Fr.refl _ _)
    have hl0 := lt_of_block HB.out.1
    obtain ⟨z0, z1, z2⟩ := cells3 HB.out.2
    have hl1 := lt_of_block HB.out.2
    have hzf : ∀ o, wa.frozen? ⟨w.heap.size + 1, o, none⟩ = false := fun o => by simp [World.frozen?, HB.out.2]
    have HFq := hid (Fr.refl wa (fun b => b = w.heap.size + 1))
    go_region_held3 (fun W' => Hid (Fr wa W' (fun b => b = w.heap.size + 1)) ∧ W'.cell? ⟨w.heap.size, 0, none⟩ = some (.int .i64 v) ∧ W'.cell? ⟨w.heap.size, 1, none⟩ = some (.string k) ∧ W'.cell? ⟨w.heap.size, 2, none⟩ = some (.int .i64 s))
      ((refine (fun h => ⟨h, HK.out _ h⟩ : Fr wa _ (fun b => b = w.heap.size + 1) → _) ?_; repeat (first | with_reducible exact HFq.out | with_reducible exact Fr.refl _ _ | with_reducible apply Fr.drew | with_reducible apply Fr.alloc | (with_reducible refine Fr.setCell ?_ ?_ _; rotate_left; (intro h; rfl)))))
      ((go_at_call 6; refine (HW.out _).mono ?_; rintro r w4 ⟨rfl, hw⟩; have HFq := hid (show Fr wa w4 (fun b => b = w.heap.size + 1) from by rw [hw]; repeat (first | with_reducible exact HFq.out | with_reducible exact Fr.refl _ _ | with_reducible apply Fr.drew | with_reducible apply Fr.alloc | (with_reducible refine Fr.setCell ?_ ?_ _; rotate_left; (intro h; rfl)))); have hbk : w4.heap = wa.heap := (by rw [hw]; rfl); have HB4 : Hid (w4.heap[w.heap.size + 1]? = some (.cells #[.int .i64 0, .string ⟨#[]⟩, .int .i64 0] 23 (0, 0))) := (by rw [hbk]; exact HB.out.2); obtain ⟨z0, z1, z2⟩ := cells3 HB4.out; have hzf : ∀ o, w4.frozen? ⟨w.heap.size + 1, o, none⟩ = false := fun o => (by simp [World.frozen?, HB4.out]); have hl4 := lt_of_block HB4.out; clear hw hbk))
    go_wp2_with fail
    refine bodyPost_ret (v := .agg #[.int .i64 (v % 2), .string ⟨#[107]⟩, .int .i64 (s.tmod 3)]) (by simp [results, Tryd.results5, go_sem, z0, z1, z2]) rfl ⟨rfl, ?_⟩
    refine HFw.out.trans2 (S := fun _ => False) (T := fun b => b = w.heap.size + 1) ?_ (fun i hi e => by omega)
    repeat (first | with_reducible exact HFq.out | with_reducible exact Fr.refl _ _ | with_reducible apply Fr.drew | with_reducible apply Fr.alloc | (with_reducible refine Fr.setCell ?_ ?_ _; rotate_left; (intro h; rfl)))
  · rw [show fewK k = str8 [97 + (k.data.getD 0 0).toNat % 4] by unfold fewK; rw [if_neg h0]]
    have t0 : (0 : Int) < (k.size : Int) := by omega
    have hp : 0 < k.size := by omega
    have hp2 : 0 < k.data.size := hp
    obtain ⟨m, hm, hm2⟩ : ∃ m : Nat, (k.data.getD 0 0).toNat = m ∧ (k[0]'hp).toNat = m := ⟨_, rfl, by simp only [Array.getD_eq_getD_getElem?, Array.getElem?_eq_getElem hp2]; rfl⟩
    have hcv : (convert 54 9 (.slice (some ⟨w.heap.size + 1 + 1, 0, none⟩) 1 1)).run Tryd.prog (((w.alloc (.cells #[.int .i64 v, .string k, .int .i64 s] 23)).alloc (.cells #[.int .i64 0, .string ⟨#[]⟩, .int .i64 0] 23)).alloc (.cells #[.int .u8 (97 + (m : Int) % 4)] 5)) = .ok (.string (str8 [97 + m % 4])) (((w.alloc (.cells #[.int .i64 v, .string k, .int .i64 s] 23)).alloc (.cells #[.int .i64 0, .string ⟨#[]⟩, .int .i64 0] 23)).alloc (.cells #[.int .u8 (97 + (m : Int) % 4)] 5)) := by
      refine run_str8 Tryd.underlying54 Tryd.underlying5 Tryd.underlying9 (xs := [97 + m % 4]) (Or.inr ⟨_, 1, rfl, ?_⟩)
      have := cells_new ((w.alloc (.cells #[.int .i64 v, .string k, .int .i64 s] 23)).alloc (.cells #[.int .i64 0, .string ⟨#[]⟩, .int .i64 0] 23)) (.int .u8 (97 + (m : Int) % 4)) 5
      simpa [by8] using this
    rw [hm]
    have hmb : (m : Int) < 256 := by rw [← hm2]; have := (k[0]'hp).toNat_lt; omega
    go_enter Tryd.func5, Tryd.ntmps5
    go_wp2_with fail
    have HB : Hid ((((w.alloc (.cells #[.int .i64 v, .string k, .int .i64 s] 23)).alloc (.cells #[.int .i64 0, .string ⟨#[]⟩, .int .i64 0] 23)).alloc (.cells #[.int .u8 (97 + (m : Int) % 4)] 5)).heap[w.heap.size]? = some (.cells #[.int .i64 v, .string k, .int .i64 s] 23 (0, 0)) ∧ (((w.alloc (.cells #[.int .i64 v, .string k, .int .i64 s] 23)).alloc (.cells #[.int .i64 0, .string ⟨#[]⟩, .int .i64 0] 23)).alloc (.cells #[.int .u8 (97 + (m : Int) % 4)] 5)).heap[w.heap.size + 1]? = some (.cells #[.int .i64 0, .string ⟨#[]⟩, .int .i64 0] 23 (0, 0))) := ⟨(Below.heap_alloc _ _ _ (by simp; omega)).trans ((Below.heap_alloc _ _ _ (by simp)).trans (heap_last _ _ _ rfl)), (Below.heap_alloc _ _ _ (by simp)).trans (heap_last _ _ _ (by simp))⟩
    have HFw : Hid (Fr w (((w.alloc (.cells #[.int .i64 v, .string k, .int .i64 s] 23)).alloc (.cells #[.int .i64 0, .string ⟨#[]⟩, .int .i64 0] 23)).alloc (.cells #[.int .u8 (97 + (m : Int) % 4)] 5)) (fun _ => False)) := ((alloc_fr w _ _).alloc _).alloc _
    generalize (((w.alloc (.cells #[.int .i64 v, .string k, .int .i64 s] 23)).alloc (.cells #[.int .i64 0, .string ⟨#[]⟩, .int .i64 0] 23)).alloc (.cells #[.int .u8 (97 + (m : Int) % 4)] 5)) = wa at *
    have HK := hid (fun (W' : World) (hf : Fr wa W' (fun b => b = w.heap.size + 1)) => cells3 ((hf.block _ (lt_of_block HB.out.1) (by omega)).trans HB.out.1))
    obtain ⟨k0, k1, k2⟩ := HK.out wa (Fr.refl _ _)
    have hl0 := lt_of_block HB.out.1
    obtain ⟨z0, z1, z2⟩ := cells3 HB.out.2
    have hl1 := lt_of_block HB.out.2
    have hzf : ∀ o, wa.frozen? ⟨w.heap.size + 1, o, none⟩ = false := fun o => by simp [World.frozen?, HB.out.2]
    have HFq := hid (Fr.refl wa (fun b => b = w.heap.size + 1))
    go_region_held3 (fun W' => Hid (Fr wa W' (fun b => b = w.heap.size + 1)) ∧ W'.cell? ⟨w.heap.size, 0, none⟩ = some (.int .i64 v) ∧ W'.cell? ⟨w.heap.size, 1, none⟩ = some (.string k) ∧ W'.cell? ⟨w.heap.size, 2, none⟩ = some (.int .i64 s))
      ((refine (fun h => ⟨h, HK.out _ h⟩ : Fr wa _ (fun b => b = w.heap.size + 1) → _) ?_; repeat (first | with_reducible exact HFq.out | with_reducible exact Fr.refl _ _ | with_reducible apply Fr.drew | with_reducible apply Fr.alloc | (with_reducible refine Fr.setCell ?_ ?_ _; rotate_left; (intro h; rfl)))))
      ((go_at_call 6; refine (HW.out _).mono ?_; rintro r w4 ⟨rfl, hw⟩; have HFq := hid (show Fr wa w4 (fun b => b = w.heap.size + 1) from by rw [hw]; repeat (first | with_reducible exact HFq.out | with_reducible exact Fr.refl _ _ | with_reducible apply Fr.drew | with_reducible apply Fr.alloc | (with_reducible refine Fr.setCell ?_ ?_ _; rotate_left; (intro h; rfl)))); have hbk : w4.heap = wa.heap := (by rw [hw]; rfl); have HB4 : Hid (w4.heap[w.heap.size + 1]? = some (.cells #[.int .i64 0, .string ⟨#[]⟩, .int .i64 0] 23 (0, 0))) := (by rw [hbk]; exact HB.out.2); obtain ⟨z0, z1, z2⟩ := cells3 HB4.out; have hzf : ∀ o, w4.frozen? ⟨w.heap.size + 1, o, none⟩ = false := fun o => (by simp [World.frozen?, HB4.out]); have hl4 := lt_of_block HB4.out; clear hw hbk))
    go_wp2_with fail
    refine bodyPost_ret (v := .agg #[.int .i64 (v % 2), .string (str8 [97 + m % 4]), .int .i64 (s.tmod 3)]) (by simp [results, Tryd.results5, go_sem, z0, z1, z2]) rfl ⟨rfl, ?_⟩
    refine HFw.out.trans2 (S := fun _ => False) (T := fun b => b = w.heap.size + 1) ?_ (fun i hi e => by omega)
    repeat (first | with_reducible exact HFq.out | with_reducible exact Fr.refl _ _ | with_reducible apply Fr.drew | with_reducible apply Fr.alloc | (with_reducible refine Fr.setCell ?_ ?_ _; rotate_left; (intro h; rfl)))
end Go.Proofs.YtcjadgnefojjgabDoor.S
