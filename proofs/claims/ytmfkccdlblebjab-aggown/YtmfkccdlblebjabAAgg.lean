/- agg.join, Put, Fold: what they answer, as plain functions, and walks. -/
import Derived.Test.YtmfkccdlblebjabAMul
import Derived.Deep.RegionHeld3
namespace Go.Proofs.Ytmfkccdlblebjab
open Go.RowKit

/-- An aggregate. -/
structure Ag where
  c : Int
  s : Int
  lo : Int
  hi : Int
def Ag.zero : Ag := ⟨0, 0, 0, 0⟩
def Ag.ok (a : Ag) : Prop := fits a.c ∧ fits a.s ∧ fits a.lo ∧ fits a.hi
def Ag.v (a : Ag) : Value := .agg #[.int .i64 a.c, .int .i64 a.s, .int .i64 a.lo, .int .i64 a.hi]
def joinE (a b : Ag) : Except (Int × Int) Ag :=
  if fits (a.c + b.c) then (if fits (a.s + b.s) then .ok ⟨a.c + b.c, a.s + b.s, min a.lo b.lo, max a.hi b.hi⟩ else .error (a.s, b.s)) else .error (a.c, b.c)
def putE (a : Ag) (x : Int) : Except (Int × Int) Ag := if a.c = 0 then joinE ⟨a.c, a.s, x, x⟩ ⟨1, x, x, x⟩ else joinE a ⟨1, x, x, x⟩

/-- What a call of join, Put, Merge or Fold answers. -/
def Ans (w : World) (r : Except (Int × Int) Ag) (e : Ending) (w' : World) : Prop :=
  Fr w w' (fun _ => False) ∧ match r with
  | .ok a => e = .returned (.tuple #[.agg #[.int .i64 a.c, .int .i64 a.s, .int .i64 a.lo, .int .i64 a.hi], .nilIface])
  | .error p => ∃ b, e = .returned (.tuple #[.agg #[.int .i64 0, .int .i64 0, .int .i64 0, .int .i64 0], overV b]) ∧ w'.heap[b]? = some (overB 43 p.1 p.2) ∧ w.heap.size ≤ b

/-- Behind a call that turns nothing old, every old cell reads as before. -/
theorem fr_rules {a w' : World} (h : Fr a w' (fun _ => False)) : (∀ b o, b < a.heap.size → w'.cell? ⟨b, o, none⟩ = a.cell? ⟨b, o, none⟩) ∧ (∀ b o, b < a.heap.size → w'.frozen? ⟨b, o, none⟩ = a.frozen? ⟨b, o, none⟩) := by
  have hb : Below a.heap.size a w' := h.below (Nat.le_refl _) (fun _ h => h.elim)
  exact ⟨fun b o h => hb.cell (p := ⟨b, o, none⟩) h, fun b o h => hb.frozen (p := ⟨b, o, none⟩) h⟩
theorem heap_last (w : World) (o : Obj) (k : Nat) (h : w.heap.size = k) : (w.alloc o).heap[k]? = some o := by subst h; exact heap_alloc_new w o
theorem min_cases (a b : Int) : (a ≤ b ∧ min a b = a) ∨ (b ≤ a ∧ min a b = b) := by omega
theorem max_cases (a b : Int) : (b ≤ a ∧ max a b = a) ∨ (a ≤ b ∧ max a b = b) := by omega

set_option maxHeartbeats 400000 in
theorem join_ok (c s lo hi c' s' lo' hi' : Int) (h1 : fits (c + c')) (h2 : fits (s + s')) (w : World) :
    Calls Try.prog 23 #[.agg #[.int .i64 c, .int .i64 s, .int .i64 lo, .int .i64 hi], .agg #[.int .i64 c', .int .i64 s', .int .i64 lo', .int .i64 hi']] w fun e w' =>
      e = .returned (.tuple #[.agg #[.int .i64 (c + c'), .int .i64 (s + s'), .int .i64 (min lo lo'), .int .i64 (max hi hi')], .nilIface]) ∧ Fr w w' (fun _ => False) := by
  go_enter Try.func23, Try.ntmps23
  go_wp2_with fail
  refine (add_ok c c' h1 _).mono ?_
  rintro e w1 ⟨rfl, rfl⟩
  go_wp2_with fail
  refine (add_ok s s' h2 _).mono ?_
  rintro e w1 ⟨rfl, rfl⟩
  go_wp2_with fail
  all_goals (first | rw [Int.min_eq_left (show lo ≤ lo' by omega)] | rw [Int.min_eq_right (show lo' ≤ lo by omega)])
  all_goals (first | rw [Int.max_eq_left (show hi' ≤ hi by omega)] | rw [Int.max_eq_right (show hi ≤ hi' by omega)])
  all_goals
    refine bodyPost_ret (v := .tuple #[.agg #[.int .i64 (c + c'), .int .i64 (s + s'), .int .i64 _, .int .i64 _], .nilIface]) (by simp [results, Try.results23, go_sem]) rfl ⟨rfl, (((alloc_fr _ _ _).alloc _).alloc _)⟩
set_option maxHeartbeats 400000 in
theorem join_count (c s lo hi c' s' lo' hi' : Int) (hc : fits c) (hc' : fits c') (h1 : ¬ fits (c + c')) (w : World) :
    Calls Try.prog 23 #[.agg #[.int .i64 c, .int .i64 s, .int .i64 lo, .int .i64 hi], .agg #[.int .i64 c', .int .i64 s', .int .i64 lo', .int .i64 hi']] w fun e w' =>
      ∃ b, e = .returned (.tuple #[.agg #[.int .i64 0, .int .i64 0, .int .i64 0, .int .i64 0], overV b]) ∧ w'.heap[b]? = some (overB 43 c c') ∧ w.heap.size ≤ b ∧ Fr w w' (fun _ => False) := by
  go_enter Try.func23, Try.ntmps23
  go_wp2_with fail
  refine (add_over c c' hc hc' h1 _).mono ?_
  unfold overV overB
  rintro e w1 ⟨rfl, rfl⟩
  go_wp2_with fail
  exact bodyPost_ret (v := .tuple #[.agg #[.int .i64 0, .int .i64 0, .int .i64 0, .int .i64 0], overV (w.heap.size + 1 + 1 + 1)]) (by simp [results, Try.results23, go_sem, overV]) rfl ⟨_, rfl, heap_last _ _ _ (by simp), by omega, ((((alloc_fr _ _ _).alloc _).alloc _).alloc _)⟩
set_option maxHeartbeats 400000 in
theorem join_sum (c s lo hi c' s' lo' hi' : Int) (h1 : fits (c + c')) (hs : fits s) (hs' : fits s') (h2 : ¬ fits (s + s')) (w : World) :
    Calls Try.prog 23 #[.agg #[.int .i64 c, .int .i64 s, .int .i64 lo, .int .i64 hi], .agg #[.int .i64 c', .int .i64 s', .int .i64 lo', .int .i64 hi']] w fun e w' =>
      ∃ b, e = .returned (.tuple #[.agg #[.int .i64 0, .int .i64 0, .int .i64 0, .int .i64 0], overV b]) ∧ w'.heap[b]? = some (overB 43 s s') ∧ w.heap.size ≤ b ∧ Fr w w' (fun _ => False) := by
  go_enter Try.func23, Try.ntmps23
  go_wp2_with fail
  refine (add_ok c c' h1 _).mono ?_
  rintro e w1 ⟨rfl, rfl⟩
  go_wp2_with fail
  refine (add_over s s' hs hs' h2 _).mono ?_
  unfold overV overB
  rintro e w1 ⟨rfl, rfl⟩
  go_wp2_with fail
  exact bodyPost_ret (v := .tuple #[.agg #[.int .i64 0, .int .i64 0, .int .i64 0, .int .i64 0], overV (w.heap.size + 1 + 1 + 1)]) (by simp [results, Try.results23, go_sem, overV]) rfl ⟨_, rfl, heap_last _ _ _ (by simp), by omega, ((((alloc_fr _ _ _).alloc _).alloc _).alloc _)⟩

theorem join_any (a b : Ag) (ha : a.ok) (hb : b.ok) (w : World) :
    Calls Try.prog 23 #[.agg #[.int .i64 a.c, .int .i64 a.s, .int .i64 a.lo, .int .i64 a.hi], .agg #[.int .i64 b.c, .int .i64 b.s, .int .i64 b.lo, .int .i64 b.hi]] w (Ans w (joinE a b)) := by
  unfold joinE
  by_cases h1 : fits (a.c + b.c)
  · rw [if_pos h1]
    by_cases h2 : fits (a.s + b.s)
    · rw [if_pos h2]
      exact (join_ok _ _ _ _ _ _ _ _ h1 h2 w).mono fun e w' ⟨h, f⟩ => ⟨f, h⟩
    · rw [if_neg h2]
      exact (join_sum _ _ _ _ _ _ _ _ h1 ha.2.1 hb.2.1 h2 w).mono fun e w' ⟨b, h, g, k, f⟩ => ⟨f, b, h, g, k⟩
  · rw [if_neg h1]
    exact (join_count _ _ _ _ _ _ _ _ ha.1 hb.1 h1 w).mono fun e w' ⟨b, h, g, k, f⟩ => ⟨f, b, h, g, k⟩

/-- What a join answers is made of numbers that fit. -/
theorem joinE_ok {a b r : Ag} (ha : a.ok) (hb : b.ok) (h : joinE a b = .ok r) : r.ok := by
  unfold joinE at h
  split at h
  · split at h
    · cases h
      obtain ⟨_, _, ha3, ha4⟩ := ha
      obtain ⟨_, _, hb3, hb4⟩ := hb
      refine ⟨‹_›, ‹_›, ?_, ?_⟩
      · rcases min_cases a.lo b.lo with ⟨_, e⟩ | ⟨_, e⟩ <;> simp only [e] <;> assumption
      · rcases max_cases a.hi b.hi with ⟨_, e⟩ | ⟨_, e⟩ <;> simp only [e] <;> assumption
    · cases h
  · cases h

/-- Four cells of one block, stored. -/
theorem fr_set4 {w w1 : World} {B : Nat} (h : Fr w w1 (fun _ => False)) (hB : w.heap.size ≤ B) (u0 u1 u2 u3 : Value) : Fr w ((((w1.setCell ⟨B, 0, none⟩ u0).setCell ⟨B, 1, none⟩ u1).setCell ⟨B, 2, none⟩ u2).setCell ⟨B, 3, none⟩ u3) (fun _ => False) :=
  (((h.setCell (fun h => by simp at h; omega) _).setCell (fun h => by simp at h; omega) _).setCell (fun h => by simp at h; omega) _).setCell (fun h => by simp at h; omega) _
theorem heap_set4 {w1 : World} {B b : Nat} (hB : b ≠ B) (u0 u1 u2 u3 : Value) : ((((w1.setCell ⟨B, 0, none⟩ u0).setCell ⟨B, 1, none⟩ u1).setCell ⟨B, 2, none⟩ u2).setCell ⟨B, 3, none⟩ u3).heap[b]? = w1.heap[b]? := by
  rw [Below.heap_setCell _ _ _ _ (by simpa using hB), Below.heap_setCell _ _ _ _ (by simpa using hB), Below.heap_setCell _ _ _ _ (by simpa using hB), Below.heap_setCell _ _ _ _ (by simpa using hB)]

set_option maxHeartbeats 400000 in
theorem put_any (a : Ag) (x : Int) (ha : a.ok) (hx : fits x) (w : World) :
    Calls Try.prog 19 #[.agg #[.int .i64 a.c, .int .i64 a.s, .int .i64 a.lo, .int .i64 a.hi], .int .i64 x] w (Ans w (putE a x)) := by
  have h1 : fits 1 := by decide
  unfold putE
  by_cases hc : a.c = 0
  · rw [if_pos hc]
    have HJ := hid (fun W : World => join_any ⟨a.c, a.s, x, x⟩ ⟨1, x, x, x⟩ ⟨ha.1, ha.2.1, hx, hx⟩ ⟨h1, hx, hx, hx⟩ W)
    generalize joinE ⟨a.c, a.s, x, x⟩ ⟨1, x, x, x⟩ = r at *
    simp only [hc] at HJ
    rw [hc]
    clear hc
    go_enter Try.func19, Try.ntmps19
    go_wp2_with fail
    refine (HJ.out _).mono ?_
    rintro e w1 ⟨hf, hr⟩
    obtain ⟨hc1, hc2⟩ := fr_rules hf
    have hz : w.heap.size + 1 < w1.heap.size := by have := hf.size; simp at this; omega
    have HF := hid (((alloc_fr w _ _).alloc _).trans hf)
    clear hf HJ
    cases r with
    | ok r =>
      have hr := hr.symm
      subst hr
      go_wp2_with fail
      exact bodyPost_ret (v := .tuple #[.agg #[.int .i64 r.c, .int .i64 r.s, .int .i64 r.lo, .int .i64 r.hi], .nilIface]) (by simp [results, Try.results19, go_sem, hc1]) rfl ⟨fr_set4 HF.out (by omega) _ _ _ _, rfl⟩
    | error p =>
      obtain ⟨b, rfl, hb, hge⟩ := hr
      have HB := hid hb
      have hne : b ≠ w.heap.size + 1 := by simp at hge; omega
      have HG := hid (show w.heap.size ≤ b by simp at hge; omega)
      clear hb hge
      unfold overV
      go_wp2_with fail
      exact bodyPost_ret (v := .tuple #[.agg #[.int .i64 0, .int .i64 0, .int .i64 0, .int .i64 0], overV b]) (by simp [results, Try.results19, go_sem, hc1, overV]) rfl ⟨fr_set4 HF.out (by omega) _ _ _ _, b, rfl, (heap_set4 hne _ _ _ _).trans HB.out, HG.out⟩
  · rw [if_neg hc]
    have HJ := hid (fun W : World => join_any a ⟨1, x, x, x⟩ ha ⟨h1, hx, hx, hx⟩ W)
    generalize joinE a ⟨1, x, x, x⟩ = r at *
    go_enter Try.func19, Try.ntmps19
    go_wp2_with fail
    refine (HJ.out _).mono ?_
    rintro e w1 ⟨hf, hr⟩
    obtain ⟨hc1, hc2⟩ := fr_rules hf
    have hz : w.heap.size + 1 < w1.heap.size := by have := hf.size; simp at this; omega
    have HF := hid (((alloc_fr w _ _).alloc _).trans hf)
    clear hf HJ
    cases r with
    | ok r =>
      have hr := hr.symm
      subst hr
      go_wp2_with fail
      exact bodyPost_ret (v := .tuple #[.agg #[.int .i64 r.c, .int .i64 r.s, .int .i64 r.lo, .int .i64 r.hi], .nilIface]) (by simp [results, Try.results19, go_sem, hc1]) rfl ⟨fr_set4 HF.out (by omega) _ _ _ _, rfl⟩
    | error p =>
      obtain ⟨b, rfl, hb, hge⟩ := hr
      have HB := hid hb
      have hne : b ≠ w.heap.size + 1 := by simp at hge; omega
      have HG := hid (show w.heap.size ≤ b by simp at hge; omega)
      clear hb hge
      unfold overV
      go_wp2_with fail
      exact bodyPost_ret (v := .tuple #[.agg #[.int .i64 0, .int .i64 0, .int .i64 0, .int .i64 0], overV b]) (by simp [results, Try.results19, go_sem, hc1, overV]) rfl ⟨fr_set4 HF.out (by omega) _ _ _ _, b, rfl, (heap_set4 hne _ _ _ _).trans HB.out, HG.out⟩
end Go.Proofs.Ytmfkccdlblebjab
