/- oper.Reckon, the document's Add and Put: walks. -/
import Derived.Test.YtbhhpkbiflolfaaAOvA
namespace Go.Proofs.Ytbhhpkbiflolfaa.A
open Go.RowKit

theorem reckon_any (o : Value) (a : Ag) (x : Int) (ha : a.ok) (hx : fits x) (w : World) :
    Calls Try.prog 20 #[o, .agg #[.int .i64 a.c, .int .i64 a.s, .int .i64 a.lo, .int .i64 a.hi], .int .i64 x] w (Ans w (putE a x)) := by
  have HP := hid (fun W : World => put_any a x ha hx W)
  generalize putE a x = r at *
  go_enter Try.func20, Try.ntmps20
  go_wp2_with fail
  refine (HP.out _).mono ?_
  rintro e w1 ⟨hf, hr⟩
  obtain ⟨hc1, hc2⟩ := fr_rules hf
  have hz : w.heap.size + 1 < w1.heap.size := by have := hf.size; simp at this; omega
  have HF := hid (((alloc_fr w _ _).alloc _).trans hf)
  clear hf HP
  cases r with
  | ok r =>
    have hr := hr.symm
    subst hr
    go_wp2_with fail
    exact bodyPost_ret (v := .tuple #[.agg #[.int .i64 r.c, .int .i64 r.s, .int .i64 r.lo, .int .i64 r.hi], .nilIface]) (by simp [results, Try.results20, go_sem, hc1]) rfl ⟨fr_set4 HF.out (by omega) _ _ _ _, rfl⟩
  | error p =>
    obtain ⟨b, rfl, hb, hge⟩ := hr
    have HB := hid hb
    have hne : b ≠ w.heap.size + 1 := by simp at hge; omega
    have HG := hid (show w.heap.size ≤ b by simp at hge; omega)
    clear hb hge
    unfold overV
    go_wp2_with fail
    exact bodyPost_ret (v := .tuple #[.agg #[.int .i64 0, .int .i64 0, .int .i64 0, .int .i64 0], overV b]) (by simp [results, Try.results20, go_sem, hc1, overV]) rfl ⟨fr_set4 HF.out (by omega) _ _ _ _, b, rfl, (heap_set4 hne _ _ _ _).trans HB.out, HG.out⟩
theorem radd_ok (a b : Int) (ha : fits a) (hb : fits b) (h : fits (a + b)) (w : World) : Calls Try.prog 54 #[.int .i64 a, .int .i64 b] w fun e w' => e = .returned (.tuple #[.int .i64 (a + b), .bool true]) ∧ w' = w := by
  obtain ⟨a1, a2⟩ := ha
  obtain ⟨b1, b2⟩ := hb
  obtain ⟨h1, h2⟩ := h
  rcases Int.lt_trichotomy b 0 with hz | hz | hz
  · have t1 : ¬ (0 < b) := by omega
    have t2 : ¬ (a < -9223372036854775808 - b) := by omega
    go_enter Try.func54, Try.ntmps54
    go_wp2
    go_ret2
    exact ⟨rfl, rfl⟩
  · subst hz
    rw [Int.add_zero]
    go_enter Try.func54, Try.ntmps54
    go_wp2
    go_ret2
    exact ⟨rfl, rfl⟩
  · have t1 : ¬ (b < 0) := by omega
    have t2 : ¬ (9223372036854775807 - b < a) := by omega
    go_enter Try.func54, Try.ntmps54
    go_wp2
    go_ret2
    exact ⟨rfl, rfl⟩
theorem radd_no (a b : Int) (ha : fits a) (hb : fits b) (h : ¬ fits (a + b)) (w : World) : Calls Try.prog 54 #[.int .i64 a, .int .i64 b] w fun e w' => e = .returned (.tuple #[.int .i64 0, .bool false]) ∧ w' = w := by
  unfold fits at ha hb h
  obtain ⟨a1, a2⟩ := ha
  obtain ⟨b1, b2⟩ := hb
  by_cases hz : b < 0
  · have t1 : ¬ (0 < b) := by omega
    have t2 : a < -9223372036854775808 - b := by omega
    clear h
    go_enter Try.func54, Try.ntmps54
    go_wp2
    go_ret2
    exact ⟨rfl, rfl⟩
  · have t1 : 0 < b := by omega
    have t2 : 9223372036854775807 - b < a := by omega
    clear h hz
    go_enter Try.func54, Try.ntmps54
    go_wp2
    go_ret2
    exact ⟨rfl, rfl⟩
/-- What the document's Put answers. -/
def rputR (r : Except (Int × Int) Ag) (e : Ending) : Prop := match r with
  | .ok b => e = .returned (.tuple #[.agg #[.int .i64 b.c, .int .i64 b.s, .int .i64 b.lo, .int .i64 b.hi], .agg #[.bool false, .int .i64 0, .int .i64 0]])
  | .error p => e = .returned (.tuple #[.agg #[.int .i64 0, .int .i64 0, .int .i64 0, .int .i64 0], .agg #[.bool true, .int .i64 p.1, .int .i64 p.2]])
set_option maxHeartbeats 2000000 in
theorem rput_any (a : Ag) (x : Int) (ha : a.ok) (hx : fits x) (h0 : a.c = 0 → a.s = 0) (w : World) : Calls Try.prog 21 #[.agg #[.int .i64 a.c, .int .i64 a.s, .int .i64 a.lo, .int .i64 a.hi], .int .i64 x] w fun e w' => rputR (putE a x) e ∧ Fr w w' (fun _ => False) := by
  by_cases hc : a.c = 0
  · have e1 : putE a x = .ok ⟨1, x, x, x⟩ := by
      unfold putE joinE
      rw [if_pos hc]
      simp only [hc, h0 hc]
      rw [if_pos (by decide), if_pos (by rw [Int.zero_add]; exact hx)]
      simp
    rw [e1, hc]
    unfold rputR
    clear hc e1 h0
    go_enter Try.func21, Try.ntmps21
    go_wp2_with fail
    exact bodyPost_ret (v := .tuple #[.agg #[.int .i64 1, .int .i64 x, .int .i64 x, .int .i64 x], .agg #[.bool false, .int .i64 0, .int .i64 0]]) (by simp [results, Try.results21, go_sem]) rfl ⟨rfl, (((alloc_fr _ _ _).alloc _).alloc _)⟩
  · have e1 : putE a x = joinE a ⟨1, x, x, x⟩ := by unfold putE; rw [if_neg hc]
    have hcb : (a.c == 0) = false := by simpa using hc
    rw [e1]
    clear e1 h0 hc
    have h1 : fits 1 := by decide
    by_cases hn : fits (a.c + 1)
    · have HA := hid (fun W : World => radd_ok a.c 1 ha.1 h1 hn W)
      by_cases hs : fits (a.s + x)
      · have e2 : joinE a ⟨1, x, x, x⟩ = .ok ⟨a.c + 1, a.s + x, min a.lo x, max a.hi x⟩ := by unfold joinE; rw [if_pos hn, if_pos hs]
        have HB := hid (fun W : World => radd_ok a.s x ha.2.1 hx hs W)
        rw [e2]
        unfold rputR
        clear e2 hn hs
        by_cases t1 : x < a.lo
        · by_cases t2 : a.hi < x
          · dsimp only
            rw [Int.min_eq_right (show x ≤ a.lo by omega), Int.max_eq_right (show a.hi ≤ x by omega)]
            go_enter Try.func21, Try.ntmps21
            go_wp2_with fail
            refine (HA.out _).mono ?_
            rintro e w1 ⟨rfl, rfl⟩
            go_wp2_with fail
            refine (HB.out _).mono ?_
            rintro e w1 ⟨rfl, rfl⟩
            go_wp2_with fail
            exact bodyPost_ret (v := .tuple #[.agg #[.int .i64 (a.c + 1), .int .i64 (a.s + x), .int .i64 x, .int .i64 x], .agg #[.bool false, .int .i64 0, .int .i64 0]]) (by simp [results, Try.results21, go_sem]) rfl ⟨rfl, ((((alloc_fr _ _ _).alloc _).alloc _).alloc _)⟩
          · dsimp only
            rw [Int.min_eq_right (show x ≤ a.lo by omega), Int.max_eq_left (show x ≤ a.hi by omega)]
            go_enter Try.func21, Try.ntmps21
            go_wp2_with fail
            refine (HA.out _).mono ?_
            rintro e w1 ⟨rfl, rfl⟩
            go_wp2_with fail
            refine (HB.out _).mono ?_
            rintro e w1 ⟨rfl, rfl⟩
            go_wp2_with fail
            exact bodyPost_ret (v := .tuple #[.agg #[.int .i64 (a.c + 1), .int .i64 (a.s + x), .int .i64 x, .int .i64 a.hi], .agg #[.bool false, .int .i64 0, .int .i64 0]]) (by simp [results, Try.results21, go_sem]) rfl ⟨rfl, ((((alloc_fr _ _ _).alloc _).alloc _).alloc _)⟩
        · by_cases t2 : a.hi < x
          · dsimp only
            rw [Int.min_eq_left (show a.lo ≤ x by omega), Int.max_eq_right (show a.hi ≤ x by omega)]
            go_enter Try.func21, Try.ntmps21
            go_wp2_with fail
            refine (HA.out _).mono ?_
            rintro e w1 ⟨rfl, rfl⟩
            go_wp2_with fail
            refine (HB.out _).mono ?_
            rintro e w1 ⟨rfl, rfl⟩
            go_wp2_with fail
            exact bodyPost_ret (v := .tuple #[.agg #[.int .i64 (a.c + 1), .int .i64 (a.s + x), .int .i64 a.lo, .int .i64 x], .agg #[.bool false, .int .i64 0, .int .i64 0]]) (by simp [results, Try.results21, go_sem]) rfl ⟨rfl, ((((alloc_fr _ _ _).alloc _).alloc _).alloc _)⟩
          · dsimp only
            rw [Int.min_eq_left (show a.lo ≤ x by omega), Int.max_eq_left (show x ≤ a.hi by omega)]
            go_enter Try.func21, Try.ntmps21
            go_wp2_with fail
            refine (HA.out _).mono ?_
            rintro e w1 ⟨rfl, rfl⟩
            go_wp2_with fail
            refine (HB.out _).mono ?_
            rintro e w1 ⟨rfl, rfl⟩
            go_wp2_with fail
            exact bodyPost_ret (v := .tuple #[.agg #[.int .i64 (a.c + 1), .int .i64 (a.s + x), .int .i64 a.lo, .int .i64 a.hi], .agg #[.bool false, .int .i64 0, .int .i64 0]]) (by simp [results, Try.results21, go_sem]) rfl ⟨rfl, ((((alloc_fr _ _ _).alloc _).alloc _).alloc _)⟩
      · have e2 : joinE a ⟨1, x, x, x⟩ = .error (a.s, x) := by unfold joinE; rw [if_pos hn, if_neg hs]
        have HB := hid (fun W : World => radd_no a.s x ha.2.1 hx hs W)
        rw [e2]
        unfold rputR
        clear e2 hn hs
        dsimp only
        go_enter Try.func21, Try.ntmps21
        go_wp2_with fail
        refine (HA.out _).mono ?_
        rintro e w1 ⟨rfl, rfl⟩
        go_wp2_with fail
        refine (HB.out _).mono ?_
        rintro e w1 ⟨rfl, rfl⟩
        go_wp2_with fail
        go_region
        all_goals go_wp2_with fail
        all_goals exact bodyPost_ret (v := .tuple #[.agg #[.int .i64 0, .int .i64 0, .int .i64 0, .int .i64 0], .agg #[.bool true, .int .i64 a.s, .int .i64 x]]) (by simp [results, Try.results21, go_sem]) rfl ⟨rfl, (((alloc_fr _ _ _).alloc _).alloc _).drew⟩
    · have HA := hid (fun W : World => radd_no a.c 1 ha.1 h1 hn W)
      have e2 : joinE a ⟨1, x, x, x⟩ = .error (a.c, 1) := by unfold joinE; rw [if_neg hn]
      rw [e2]
      unfold rputR
      clear e2 hn
      dsimp only
      go_enter Try.func21, Try.ntmps21
      go_wp2_with fail
      refine (HA.out _).mono ?_
      rintro e w1 ⟨rfl, rfl⟩
      go_wp2_with fail
      go_region
      all_goals go_wp2_with fail
      all_goals exact bodyPost_ret (v := .tuple #[.agg #[.int .i64 0, .int .i64 0, .int .i64 0, .int .i64 0], .agg #[.bool true, .int .i64 a.c, .int .i64 1]]) (by simp [results, Try.results21, go_sem]) rfl ⟨rfl, (((alloc_fr _ _ _).alloc _).alloc _).drew⟩
end Go.Proofs.Ytbhhpkbiflolfaa.A
