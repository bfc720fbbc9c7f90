import Derived.Test.YtbhhpkbiflolfaaMBase
/- merge: Compare, compareRows: walks. -/
namespace Go.Proofs.Ytbhhpkbiflolfaa.M
open Go.RowKit

/-- A cell as a value. -/
def vC (c : Cl) : Value := .agg #[.int .i64 c.v, .string c.k, .int .i64 c.s]
theorem cells3 {w : World} {N : Nat} {a b c : Value} {e : TypeId} (h : w.heap[N]? = some (.cells #[a, b, c] e (0, 0))) : w.cell? ⟨N, 0, none⟩ = some a ∧ w.cell? ⟨N, 1, none⟩ = some b ∧ w.cell? ⟨N, 2, none⟩ = some c := by
  refine ⟨?_, ?_, ?_⟩ <;> simp [World.cell?, h]
theorem cmpC_or (a b : Cl) : cmpC a b = orL [cmpI a.v b.v, cb (nums8 a.k) (nums8 b.k), cmpI a.s b.s] := by
  unfold cmpC orL orL orL
  by_cases h1 : cmpI a.v b.v ≠ 0
  · rw [if_pos h1, if_pos h1]
  · rw [if_neg h1, if_neg h1]
    by_cases h2 : cb (nums8 a.k) (nums8 b.k) ≠ 0
    · rw [if_pos h2, if_pos h2]
    · rw [if_neg h2, if_neg h2]
      by_cases h3 : cmpI a.s b.s ≠ 0
      · rw [if_pos h3]
      · rw [if_neg h3]
        simp [orL]
        omega

theorem or3_any (x y z : Int) (W : World) : Calls Try.prog 62 #[.slice (some ⟨W.heap.size, 0, none⟩) 3 3] (W.alloc (.cells #[.int .i64 x, .int .i64 y, .int .i64 z] 3)).drew fun e w' => e = .returned (.int .i64 (orL [x, y, z])) ∧ w' = (W.alloc (.cells #[.int .i64 x, .int .i64 y, .int .i64 z] 3)).drew := by
  have h := heap_last W (.cells #[.int .i64 x, .int .i64 y, .int .i64 z] 3) _ rfl
  obtain ⟨h0, h1, h2⟩ := cells3 h
  refine or_any [x, y, z] W.heap.size 3 _ (by simp) (fun i hi => ?_)
  match i, hi with
  | 0, _ => exact h0
  | 1, _ => exact h1
  | 2, _ => exact h2
theorem cells2 {w : World} {N : Nat} {a b : Value} {e : TypeId} (h : w.heap[N]? = some (.cells #[a, b] e (0, 0))) : w.cell? ⟨N, 0, none⟩ = some a ∧ w.cell? ⟨N, 1, none⟩ = some b := by
  refine ⟨?_, ?_⟩ <;> simp [World.cell?, h]
theorem or2_any (x y : Int) (W : World) : Calls Try.prog 62 #[.slice (some ⟨W.heap.size, 0, none⟩) 2 2] (W.alloc (.cells #[.int .i64 x, .int .i64 y] 3)).drew fun e w' => e = .returned (.int .i64 (orL [x, y])) ∧ w' = (W.alloc (.cells #[.int .i64 x, .int .i64 y] 3)).drew := by
  have h := heap_last W (.cells #[.int .i64 x, .int .i64 y] 3) _ rfl
  obtain ⟨h0, h1⟩ := cells2 h
  refine or_any [x, y] W.heap.size 2 _ (by simp) (fun i hi => ?_)
  match i, hi with
  | 0, _ => exact h0
  | 1, _ => exact h1

theorem or2n_any (x y : Int) (W : World) : Calls Try.prog 62 #[.slice (some ⟨W.heap.size, 0, none⟩) 2 2] (W.alloc (.cells #[.int .i64 x, .int .i64 y] 3)) fun e w' => e = .returned (.int .i64 (orL [x, y])) ∧ w' = W.alloc (.cells #[.int .i64 x, .int .i64 y] 3) := by
  have h := heap_last W (.cells #[.int .i64 x, .int .i64 y] 3) _ rfl
  obtain ⟨h0, h1⟩ := cells2 h
  refine or_any [x, y] W.heap.size 2 _ (by simp) (fun i hi => ?_)
  match i, hi with
  | 0, _ => exact h0
  | 1, _ => exact h1

set_option maxHeartbeats 1000000 in
set_option maxRecDepth 100000 in
theorem compareC_any (a b : Cl) (w : World) : Calls Try.prog 33 #[vC a, vC b] w fun e w' => e = .returned (.int .i64 (cmpC a b)) ∧ Fr w w' (fun _ => False) := by
  rw [cmpC_or]
  unfold vC
  have HX := hid (fun W => cmp_any a.v b.v W)
  have HY := hid (fun W => compare_any a.k b.k W)
  have HZ := hid (fun W => cmp64_any a.s b.s W)
  generalize cmpI a.v b.v = x at *
  generalize cb (nums8 a.k) (nums8 b.k) = y at *
  generalize cmpI a.s b.s = z at *
  go_enter Try.func33, Try.ntmps33
  go_wp2_with fail
  have HF0 := hid (((alloc_fr w (.cells #[.int .i64 a.v, .string a.k, .int .i64 a.s] 64) (fun _ => False)).alloc (.cells #[.int .i64 b.v, .string b.k, .int .i64 b.s] 64)))
  have hA : ((w.alloc (.cells #[.int .i64 a.v, .string a.k, .int .i64 a.s] 64)).alloc (.cells #[.int .i64 b.v, .string b.k, .int .i64 b.s] 64)).heap[w.heap.size]? = some (.cells #[.int .i64 a.v, .string a.k, .int .i64 a.s] 64 (0, 0)) := by
    rw [(alloc_fr (w.alloc (.cells #[.int .i64 a.v, .string a.k, .int .i64 a.s] 64)) (.cells #[.int .i64 b.v, .string b.k, .int .i64 b.s] 64) (fun _ => False)).block _ (by simp) (fun h => h)]
    exact heap_last _ _ _ rfl
  have hB := heap_last (w.alloc (.cells #[.int .i64 a.v, .string a.k, .int .i64 a.s] 64)) (.cells #[.int .i64 b.v, .string b.k, .int .i64 b.s] 64) (w.heap.size + 1) (by simp)
  obtain ⟨a0, a1, a2⟩ := cells3 hA
  obtain ⟨b0, b1, b2⟩ := cells3 hB
  have hlA := lt_of_block hA
  have hlB := lt_of_block hB
  clear hA hB
  generalize ((w.alloc (.cells #[.int .i64 a.v, .string a.k, .int .i64 a.s] 64)).alloc (.cells #[.int .i64 b.v, .string b.k, .int .i64 b.s] 64)) = W0 at *
  generalize w.heap.size = N at *
  have HC := hid (fun (W' : World) (hf : Fr W0 W' (fun _ => False)) => (show W'.cell? ⟨N, 0, none⟩ = some (.int .i64 a.v) ∧ W'.cell? ⟨N, 1, none⟩ = some (.string a.k) ∧ W'.cell? ⟨N, 2, none⟩ = some (.int .i64 a.s) ∧ W'.cell? ⟨N + 1, 0, none⟩ = some (.int .i64 b.v) ∧ W'.cell? ⟨N + 1, 1, none⟩ = some (.string b.k) ∧ W'.cell? ⟨N + 1, 2, none⟩ = some (.int .i64 b.s) from by
    have hr := (fr_rules hf).1
    exact ⟨by rw [hr _ _ hlA]; exact a0, by rw [hr _ _ hlA]; exact a1, by rw [hr _ _ hlA]; exact a2, by rw [hr _ _ hlB]; exact b0, by rw [hr _ _ hlB]; exact b1, by rw [hr _ _ hlB]; exact b2⟩))
  have HF := hid (Fr.refl W0 (fun _ => False))
  clear a0 a1 a2 b0 b1 b2 hlA hlB
  go_region_held3 (fun W' => Hid (Fr W0 W' (fun _ => False)) ∧ W'.cell? ⟨N, 0, none⟩ = some (.int .i64 a.v) ∧ W'.cell? ⟨N, 1, none⟩ = some (.string a.k) ∧ W'.cell? ⟨N, 2, none⟩ = some (.int .i64 a.s) ∧ W'.cell? ⟨N + 1, 0, none⟩ = some (.int .i64 b.v) ∧ W'.cell? ⟨N + 1, 1, none⟩ = some (.string b.k) ∧ W'.cell? ⟨N + 1, 2, none⟩ = some (.int .i64 b.s))
    ((refine (fun h => ⟨h, HC.out _ h⟩ : Fr W0 _ (fun _ => False) → _) ?_; repeat (first | exact HF.out | exact Fr.refl _ _ | apply Fr.drew | apply Fr.alloc)))
    (first
    | (go_at_call 63; refine (HX.out _).mono ?_; rintro e w1 ⟨rfl, rfl⟩)
    | (go_at_call 64; refine (HY.out _).mono ?_; rintro e w1 ⟨rfl, rfl⟩)
    | (go_at_call 65; refine (HZ.out _).mono ?_; rintro e w1 ⟨rfl, rfl⟩)
    | (go_at_call 62; refine (or3_any _ _ _ _).mono ?_; rintro e w1 ⟨rfl, rfl⟩)
    | fail)
  go_wp2_with fail
  go_ret
  exact ⟨rfl, HF0.out.trans (((Fr.refl W0 _).alloc _).drew)⟩

theorem cells7 {w : World} {N : Nat} {a b c d e f g : Value} {t : TypeId} (h : w.heap[N]? = some (.cells #[a, b, c, d, e, f, g] t (0, 0))) : w.cell? ⟨N, 0, none⟩ = some a ∧ w.cell? ⟨N, 1, none⟩ = some b ∧ w.cell? ⟨N, 2, none⟩ = some c ∧ w.cell? ⟨N, 3, none⟩ = some d ∧ w.cell? ⟨N, 4, none⟩ = some e ∧ w.cell? ⟨N, 5, none⟩ = some f ∧ w.cell? ⟨N, 6, none⟩ = some g := by
  refine ⟨?_, ?_, ?_, ?_, ?_, ?_, ?_⟩ <;> simp [World.cell?, h]
end Go.Proofs.Ytbhhpkbiflolfaa.M
