/- agg.Add, join, Put: what they answer, as plain functions, and walks. -/
import Derived.Test.YtbhhpkbiflolfaaABaseA
namespace Go.Proofs.Ytbhhpkbiflolfaa.A
open Go.RowKit

/-- The error of what did not fit: an *Overflow at block b. -/
def overV (b : Nat) : Value := .iface 173 (.pointer (some ⟨b, 0, none⟩))
def overB (op : Int) (a b : Int) : Obj := .cells #[.int .u8 op, .int .i64 a, .int .i64 b] 175

theorem add_ok (a b : Int) (h : fits (a + b)) (w : World) : Calls Try.prog 93 #[.int .i64 a, .int .i64 b] w fun e w' => e = .returned (.tuple #[.int .i64 (a + b), .nilIface]) ∧ w' = w := by
  obtain ⟨h1, h2⟩ := h
  by_cases hz : b < 0
  · have hlt : a + b < a := by omega
    go_enter Try.func93, Try.ntmps93
    go_wp2
    go_ret2
    exact ⟨rfl, rfl⟩
  · have hlt : ¬ a + b < a := by omega
    go_enter Try.func93, Try.ntmps93
    go_wp2
    go_ret2
    exact ⟨rfl, rfl⟩
theorem add_over (a b : Int) (ha : fits a) (hb : fits b) (h : ¬ fits (a + b)) (w : World) : Calls Try.prog 93 #[.int .i64 a, .int .i64 b] w fun e w' => e = .returned (.tuple #[.int .i64 0, overV w.heap.size]) ∧ w' = w.alloc (overB 43 a b) := by
  unfold fits at ha hb h
  by_cases hz : b < 0
  · have hlt : ¬ wrap64 (a + b) < a := by unfold wrap64; omega
    go_enter Try.func93, Try.ntmps93
    go_wp2
    go_ret2
    exact ⟨rfl, rfl⟩
  · have hlt : wrap64 (a + b) < a := by unfold wrap64; omega
    go_enter Try.func93, Try.ntmps93
    go_wp2
    go_ret2
    exact ⟨rfl, rfl⟩
def joinE (a b : Ag) : Except (Int × Int) Ag :=
  if fits (a.c + b.c) then (if fits (a.s + b.s) then .ok ⟨a.c + b.c, a.s + b.s, min a.lo b.lo, max a.hi b.hi⟩ else .error (a.s, b.s)) else .error (a.c, b.c)
def putE (a : Ag) (x : Int) : Except (Int × Int) Ag := if a.c = 0 then joinE ⟨a.c, a.s, x, x⟩ ⟨1, x, x, x⟩ else joinE a ⟨1, x, x, x⟩

/-- What a call of join, Put, Merge or Fold answers. -/
def Ans (w : World) (r : Except (Int × Int) Ag) (e : Ending) (w' : World) : Prop :=
  Fr w w' (fun _ => False) ∧ match r with
  | .ok a => e = .returned (.tuple #[.agg #[.int .i64 a.c, .int .i64 a.s, .int .i64 a.lo, .int .i64 a.hi], .nilIface])
  | .error p => ∃ b, e = .returned (.tuple #[.agg #[.int .i64 0, .int .i64 0, .int .i64 0, .int .i64 0], overV b]) ∧ w'.heap[b]? = some (overB 43 p.1 p.2) ∧ w.heap.size ≤ b

theorem min_cases (a b : Int) : (a ≤ b ∧ min a b = a) ∨ (b ≤ a ∧ min a b = b) := by omega
theorem max_cases (a b : Int) : (b ≤ a ∧ max a b = a) ∨ (a ≤ b ∧ max a b = b) := by omega

set_option maxHeartbeats 400000 in
theorem join_ok (c s lo hi c' s' lo' hi' : Int) (h1 : fits (c + c')) (h2 : fits (s + s')) (w : World) :
    Calls Try.prog 83 #[.agg #[.int .i64 c, .int .i64 s, .int .i64 lo, .int .i64 hi], .agg #[.int .i64 c', .int .i64 s', .int .i64 lo', .int .i64 hi']] w fun e w' =>
      e = .returned (.tuple #[.agg #[.int .i64 (c + c'), .int .i64 (s + s'), .int .i64 (min lo lo'), .int .i64 (max hi hi')], .nilIface]) ∧ Fr w w' (fun _ => False) := by
  go_enter Try.func83, Try.ntmps83
  go_wp2_with fail
  refine (add_ok c c' h1 _).mono ?_
  rintro e w1 ⟨rfl, rfl⟩
  go_wp2_with fail
  refine (add_ok s s' h2 _).mono ?_
  rintro e w1 ⟨rfl, rfl⟩
  go_wp2_with fail
  all_goals (first | rw [Int.min_eq_left (show lo ≤ lo' by omega)] | rw [Int.min_eq_right (show lo' ≤ lo by omega)])
  all_goals (first | rw [Int.max_eq_left (show hi' ≤ hi by omega)] | rw [Int.max_eq_right (show hi ≤ hi' by omega)])
  all_goals
    refine bodyPost_ret (v := .tuple #[.agg #[.int .i64 (c + c'), .int .i64 (s + s'), .int .i64 _, .int .i64 _], .nilIface]) (by simp [results, Try.results83, go_sem]) rfl ⟨rfl, (((alloc_fr _ _ _).alloc _).alloc _)⟩
set_option maxHeartbeats 400000 in
theorem join_count (c s lo hi c' s' lo' hi' : Int) (hc : fits c) (hc' : fits c') (h1 : ¬ fits (c + c')) (w : World) :
    Calls Try.prog 83 #[.agg #[.int .i64 c, .int .i64 s, .int .i64 lo, .int .i64 hi], .agg #[.int .i64 c', .int .i64 s', .int .i64 lo', .int .i64 hi']] w fun e w' =>
      ∃ b, e = .returned (.tuple #[.agg #[.int .i64 0, .int .i64 0, .int .i64 0, .int .i64 0], overV b]) ∧ w'.heap[b]? = some (overB 43 c c') ∧ w.heap.size ≤ b ∧ Fr w w' (fun _ => False) := by
  go_enter Try.func83, Try.ntmps83
  go_wp2_with fail
  refine (add_over c c' hc hc' h1 _).mono ?_
  unfold overV overB
  rintro e w1 ⟨rfl, rfl⟩
  go_wp2_with fail
  exact bodyPost_ret (v := .tuple #[.agg #[.int .i64 0, .int .i64 0, .int .i64 0, .int .i64 0], overV (w.heap.size + 1 + 1 + 1)]) (by simp [results, Try.results83, go_sem, overV]) rfl ⟨_, rfl, heap_last _ _ _ (by simp), by omega, ((((alloc_fr _ _ _).alloc _).alloc _).alloc _)⟩
set_option maxHeartbeats 400000 in
theorem join_sum (c s lo hi c' s' lo' hi' : Int) (h1 : fits (c + c')) (hs : fits s) (hs' : fits s') (h2 : ¬ fits (s + s')) (w : World) :
    Calls Try.prog 83 #[.agg #[.int .i64 c, .int .i64 s, .int .i64 lo, .int .i64 hi], .agg #[.int .i64 c', .int .i64 s', .int .i64 lo', .int .i64 hi']] w fun e w' =>
      ∃ b, e = .returned (.tuple #[.agg #[.int .i64 0, .int .i64 0, .int .i64 0, .int .i64 0], overV b]) ∧ w'.heap[b]? = some (overB 43 s s') ∧ w.heap.size ≤ b ∧ Fr w w' (fun _ => False) := by
  go_enter Try.func83, Try.ntmps83
  go_wp2_with fail
  refine (add_ok c c' h1 _).mono ?_
  rintro e w1 ⟨rfl, rfl⟩
  go_wp2_with fail
  refine (add_over s s' hs hs' h2 _).mono ?_
  unfold overV overB
  rintro e w1 ⟨rfl, rfl⟩
  go_wp2_with fail
  exact bodyPost_ret (v := .tuple #[.agg #[.int .i64 0, .int .i64 0, .int .i64 0, .int .i64 0], overV (w.heap.size + 1 + 1 + 1)]) (by simp [results, Try.results83, go_sem, overV]) rfl ⟨_, rfl, heap_last _ _ _ (by simp), by omega, ((((alloc_fr _ _ _).alloc _).alloc _).alloc _)⟩

theorem join_any (a b : Ag) (ha : a.ok) (hb : b.ok) (w : World) :
    Calls Try.prog 83 #[.agg #[.int .i64 a.c, .int .i64 a.s, .int .i64 a.lo, .int .i64 a.hi], .agg #[.int .i64 b.c, .int .i64 b.s, .int .i64 b.lo, .int .i64 b.hi]] w (Ans w (joinE a b)) := by
  unfold joinE
  by_cases h1 : fits (a.c + b.c)
  · rw [if_pos h1]
    by_cases h2 : fits (a.s + b.s)
    · rw [if_pos h2]
      exact (join_ok _ _ _ _ _ _ _ _ h1 h2 w).mono fun e w' ⟨h, f⟩ => ⟨f, h⟩
    · rw [if_neg h2]
      exact (join_sum _ _ _ _ _ _ _ _ h1 ha.2.1 hb.2.1 h2 w).mono fun e w' ⟨b, h, g, k, f⟩ => ⟨f, b, h, g, k⟩
  · rw [if_neg h1]
    exact (join_count _ _ _ _ _ _ _ _ ha.1 hb.1 h1 w).mono fun e w' ⟨b, h, g, k, f⟩ => ⟨f, b, h, g, k⟩

/-- What a join answers is made of numbers that fit. -/
theorem joinE_ok {a b r : Ag} (ha : a.ok) (hb : b.ok) (h : joinE a b = .ok r) : r.ok := by
  unfold joinE at h
  split at h
  · split at h
    · cases h
      obtain ⟨_, _, ha3, ha4⟩ := ha
      obtain ⟨_, _, hb3, hb4⟩ := hb
      refine ⟨‹_›, ‹_›, ?_, ?_⟩
      · rcases min_cases a.lo b.lo with ⟨_, e⟩ | ⟨_, e⟩ <;> simp only [e] <;> assumption
      · rcases max_cases a.hi b.hi with ⟨_, e⟩ | ⟨_, e⟩ <;> simp only [e] <;> assumption
    · cases h
  · cases h

set_option maxHeartbeats 400000 in
theorem put_any (a : Ag) (x : Int) (ha : a.ok) (hx : fits x) (w : World) :
    Calls Try.prog 53 #[.agg #[.int .i64 a.c, .int .i64 a.s, .int .i64 a.lo, .int .i64 a.hi], .int .i64 x] w (Ans w (putE a x)) := by
  have h1 : fits 1 := by decide
  unfold putE
  by_cases hc : a.c = 0
  · rw [if_pos hc]
    have HJ := hid (fun W : World => join_any ⟨a.c, a.s, x, x⟩ ⟨1, x, x, x⟩ ⟨ha.1, ha.2.1, hx, hx⟩ ⟨h1, hx, hx, hx⟩ W)
    generalize joinE ⟨a.c, a.s, x, x⟩ ⟨1, x, x, x⟩ = r at *
    simp only [hc] at HJ
    rw [hc]
    clear hc
    go_enter Try.func53, Try.ntmps53
    go_wp2_with fail
    refine (HJ.out _).mono ?_
    rintro e w1 ⟨hf, hr⟩
    obtain ⟨hc1, hc2⟩ := fr_rules hf
    have hz : w.heap.size + 1 < w1.heap.size := by have := hf.size; simp at this; omega
    have HF := hid (((alloc_fr w _ _).alloc _).trans hf)
    clear hf HJ
    cases r with
    | ok r =>
      have hr := hr.symm
      subst hr
      go_wp2_with fail
      exact bodyPost_ret (v := .tuple #[.agg #[.int .i64 r.c, .int .i64 r.s, .int .i64 r.lo, .int .i64 r.hi], .nilIface]) (by simp [results, Try.results53, go_sem, hc1]) rfl ⟨fr_set4 HF.out (by omega) _ _ _ _, rfl⟩
    | error p =>
      obtain ⟨b, rfl, hb, hge⟩ := hr
      have HB := hid hb
      have hne : b ≠ w.heap.size + 1 := by simp at hge; omega
      have HG := hid (show w.heap.size ≤ b by simp at hge; omega)
      clear hb hge
      unfold overV
      go_wp2_with fail
      exact bodyPost_ret (v := .tuple #[.agg #[.int .i64 0, .int .i64 0, .int .i64 0, .int .i64 0], overV b]) (by simp [results, Try.results53, go_sem, hc1, overV]) rfl ⟨fr_set4 HF.out (by omega) _ _ _ _, b, rfl, (heap_set4 hne _ _ _ _).trans HB.out, HG.out⟩
  · rw [if_neg hc]
    have HJ := hid (fun W : World => join_any a ⟨1, x, x, x⟩ ha ⟨h1, hx, hx, hx⟩ W)
    generalize joinE a ⟨1, x, x, x⟩ = r at *
    go_enter Try.func53, Try.ntmps53
    go_wp2_with fail
    refine (HJ.out _).mono ?_
    rintro e w1 ⟨hf, hr⟩
    obtain ⟨hc1, hc2⟩ := fr_rules hf
    have hz : w.heap.size + 1 < w1.heap.size := by have := hf.size; simp at this; omega
    have HF := hid (((alloc_fr w _ _).alloc _).trans hf)
    clear hf HJ
    cases r with
    | ok r =>
      have hr := hr.symm
      subst hr
      go_wp2_with fail
      exact bodyPost_ret (v := .tuple #[.agg #[.int .i64 r.c, .int .i64 r.s, .int .i64 r.lo, .int .i64 r.hi], .nilIface]) (by simp [results, Try.results53, go_sem, hc1]) rfl ⟨fr_set4 HF.out (by omega) _ _ _ _, rfl⟩
    | error p =>
      obtain ⟨b, rfl, hb, hge⟩ := hr
      have HB := hid hb
      have hne : b ≠ w.heap.size + 1 := by simp at hge; omega
      have HG := hid (show w.heap.size ≤ b by simp at hge; omega)
      clear hb hge
      unfold overV
      go_wp2_with fail
      exact bodyPost_ret (v := .tuple #[.agg #[.int .i64 0, .int .i64 0, .int .i64 0, .int .i64 0], overV b]) (by simp [results, Try.results53, go_sem, hc1, overV]) rfl ⟨fr_set4 HF.out (by omega) _ _ _ _, b, rfl, (heap_set4 hne _ _ _ _).trans HB.out, HG.out⟩
end Go.Proofs.Ytbhhpkbiflolfaa.A
