/- pane.First, the document's End, Closed, First; the law PaneEnds: walks. -/
import Derived.Test.YtfdkinghcalhfaaPRef
import Derived.Test.YtfdkinghcalhfaaPChecks
namespace Go.Proofs.Ytfdkinghcalhfaa
open Go.RowKit

theorem refEnd_any (s d l x : Int) (h : fits (x + s)) (w : World) : Calls Try.prog 18 #[.agg #[.int .i64 s, .int .i64 d, .int .i64 l], .int .i64 x] w fun e w' => e = .returned (.int .i64 (x + s)) ∧ Fr w w' (fun _ => False) := by
  obtain ⟨h1, h2⟩ := h
  go_enter Try.func18, Try.ntmps18
  go_wp2
  go_ret
  exact ⟨rfl, alloc_fr _ _ _⟩
theorem refClosed_any (s d l x m : Int) (h : fits (x + s)) (h2 : fits (x + s + l)) (w : World) : Calls Try.prog 20 #[.agg #[.int .i64 s, .int .i64 d, .int .i64 l], .int .i64 x, .int .i64 m] w fun e w' => e = .returned (.bool (decide (x + s + l ≤ m))) ∧ Fr w w' (fun _ => False) := by
  obtain ⟨h1, h1'⟩ := h
  obtain ⟨h3, h4⟩ := h2
  go_enter Try.func20, Try.ntmps20
  go_wp2
  go_ret
  exact ⟨rfl, alloc_fr _ _ _⟩
set_option maxHeartbeats 1000000 in
theorem refFirst_any {s d l m : Int} (h : OkV s d l) (hm : Mk m) (w : World) : Calls Try.prog 22 #[.agg #[.int .i64 s, .int .i64 d, .int .i64 l], .int .i64 m] w fun e w' => e = .returned (.int .i64 (oldK s d (m - l) * d)) ∧ Fr w w' (fun _ => False) := by
  obtain ⟨hm1, hm2⟩ := hm
  have hl1 := h.l1
  have hl2 := h.l2
  have hs1 := h.s1
  have hs2 := h.s2
  have hd1 := h.d1
  have hd2 := h.d2
  have HB := hid (fun W : World => below_any (n := m - s - l) h.d1 h.d2 (by omega) (by omega) W)
  have e0 : m - s - l = m - l - s := by omega
  have hn := oldK_near (t := m - l) h.d1 h.s1
  have hw : (m - s - l) / d * d + d = oldK s d (m - l) * d := by unfold oldK; rw [e0, Int.add_mul, Int.one_mul]
  have hw1 : IntKind.i64.wrap (m - s) = m - s := wrap_fit (by unfold fits; omega)
  have hw2 : IntKind.i64.wrap (m - s - l) = m - s - l := wrap_fit (by unfold fits; omega)
  have hw3 : IntKind.i64.wrap ((m - s - l) / d * d + d) = oldK s d (m - l) * d := by rw [hw]; exact wrap_fit (by unfold fits; omega)
  clear h e0 hn hw
  go_enter Try.func22, Try.ntmps22
  go_wp2_with fail
  go_quiet ((go_at_call 26; exact Calls.quiet_of_same (HB.out _)))
  go_wp2_with fail
  go_ret
  exact ⟨rfl, (alloc_fr _ _ _).drewN _⟩

set_option maxHeartbeats 4000000 in
theorem paneEnds_in {s d l x m : Int} (h : OkV s d l) (t1 : ¬ m < -4611686018427387904) (t2 : ¬ 4611686018427387904 < m) (t3 : ¬ x < -2305843009213693952) (t4 : ¬ 2305843009213693952 < x) (w : World) : Calls Try.prog 7 #[.agg #[.int .i64 s, .int .i64 d, .int .i64 l], .int .i64 x, .int .i64 m] w fun e w' => e = .returned (.bool true) ∧ Fr w w' (fun _ => False) := by
  have HC := hid (fun W : World => refCheck_ok h W)
  have hs1 := h.s1
  have hs2 := h.s2
  have hl1 := h.l1
  have hl2 := h.l2
  have f1 : fits (x + s) := by unfold fits; omega
  have f2 : fits (x + s + l) := by unfold fits; omega
  have hmk : Mk m := by unfold Mk; omega
  have H1 := hid (fun W : World => end_any s d l x f1 W)
  have H2 := hid (fun W : World => refEnd_any s d l x f1 W)
  have H3 := hid (fun W : World => closed_any s d l x m f1 f2 W)
  have H4 := hid (fun W : World => refClosed_any s d l x m f1 f2 W)
  have H5 := hid (fun W : World => first_any h hmk W)
  have H6 := hid (fun W : World => refFirst_any h hmk W)
  have HH := hid (fun W : World => head_any W)
  clear h f1 f2 hmk
  generalize oldK s d (m - l) * d = F at *
  generalize decide (x + s + l ≤ m) = B at *
  generalize x + s = E at *
  go_enter Try.func7, Try.ntmps7
  go_wp2_with fail
  refine (HC.out _).mono ?_
  rintro e w1 ⟨rfl, hf1⟩
  have HA := hid ((VF.new w s d l).step hf1)
  clear hf1 HC hs1 hs2 hl1 hl2
  go_wp2_with fail
  first
    | go_region_held3 (fun W' => Hid (VF w s d l W') ∧ W'.cell? ⟨w.heap.size, 0, none⟩ = some (.int .i64 s) ∧ W'.cell? ⟨w.heap.size, 1, none⟩ = some (.int .i64 d) ∧ W'.cell? ⟨w.heap.size, 2, none⟩ = some (.int .i64 l))
        ((refine (fun h => ⟨h, h.vw.cells⟩ : VF w s d l _ → _) ?_; repeat (first | exact HA.out | apply VF.drew | apply VF.alloc)))
        (first
          | (go_at_call 17; refine (H1.out _).mono ?_; rintro e v1 ⟨rfl, hf⟩; have HA := hid (VF.step (by repeat (first | exact HA.out | apply VF.drew | apply VF.alloc)) hf); clear hf)
          | (go_at_call 18; refine (H2.out _).mono ?_; rintro e v1 ⟨rfl, hf⟩; have HA := hid (VF.step (by repeat (first | exact HA.out | apply VF.drew | apply VF.alloc)) hf); clear hf)
          | (go_at_call 19; refine (H3.out _).mono ?_; rintro e v1 ⟨rfl, hf⟩; have HA := hid (VF.step (by repeat (first | exact HA.out | apply VF.drew | apply VF.alloc)) hf); clear hf)
          | (go_at_call 20; refine (H4.out _).mono ?_; rintro e v1 ⟨rfl, hf⟩; have HA := hid (VF.step (by repeat (first | exact HA.out | apply VF.drew | apply VF.alloc)) hf); clear hf)
          | (go_at_call 21; refine (H5.out _).mono ?_; rintro e v1 ⟨rfl, hf⟩; have HA := hid (VF.step (by repeat (first | exact HA.out | apply VF.drew | apply VF.alloc)) hf); clear hf)
          | (go_at_call 22; refine (H6.out _).mono ?_; rintro e v1 ⟨rfl, hf⟩; have HA := hid (VF.step (by repeat (first | exact HA.out | apply VF.drew | apply VF.alloc)) hf); clear hf)
          | (go_at_call 9; refine (HH.out _).mono ?_; rintro e v1 ⟨rfl, hf⟩; have HA := hid (VF.step (by repeat (first | exact HA.out | apply VF.drew | apply VF.alloc)) hf); clear hf))
    | fail
  all_goals (go_wp2_with fail)
  all_goals go_ret
  all_goals exact ⟨rfl, HA.out.fr⟩
set_option maxHeartbeats 4000000 in
theorem paneEnds_walk (s d l x m : Int) (_ : fits s) (_ : fits d) (_ : fits l) (_ : fits x) (_ : fits m) (w : World) : Calls Try.prog 7 #[.agg #[.int .i64 s, .int .i64 d, .int .i64 l], .int .i64 x, .int .i64 m] w fun e w' => e = .returned (.bool true) ∧ Fr w w' (fun _ => False) := by
  by_cases h : OkV s d l
  · have HC := hid (fun W : World => refCheck_ok h W)
    have hc : (m < -4611686018427387904) ∨ (¬ m < -4611686018427387904 ∧ 4611686018427387904 < m) ∨ (¬ m < -4611686018427387904 ∧ ¬ 4611686018427387904 < m ∧ x < -2305843009213693952) ∨ (¬ m < -4611686018427387904 ∧ ¬ 4611686018427387904 < m ∧ ¬ x < -2305843009213693952 ∧ 2305843009213693952 < x) ∨ (¬ m < -4611686018427387904 ∧ ¬ 4611686018427387904 < m ∧ ¬ x < -2305843009213693952 ∧ ¬ 2305843009213693952 < x) := by omega
    rcases hc with t1 | ⟨t1, t2⟩ | ⟨t1, t2, t3⟩ | ⟨t1, t2, t3, t4⟩ | ⟨t1, t2, t3, t4⟩
    all_goals (try (exact paneEnds_in h t1 t2 t3 t4 w))
    all_goals
      clear h
      go_enter Try.func7, Try.ntmps7
      go_wp2_with fail
      refine (HC.out _).mono ?_
      rintro e w1 ⟨rfl, hf1⟩
      have HF1 := hid ((alloc_fr w _ _).trans hf1)
      clear hf1
      go_wp2_with fail
      refine (head_any _).mono ?_
      rintro e w4 ⟨rfl, hf4⟩
      have HF4 := hid (HF1.out.trans hf4)
      clear hf4
      go_wp2_with fail
      go_ret
      exact ⟨rfl, HF4.out⟩
  · have HC := hid (fun W : World => refCheck_bad h W)
    clear h
    go_enter Try.func7, Try.ntmps7
    go_wp2_with fail
    refine (HC.out _).mono ?_
    rintro e w1 ⟨rfl, hf1⟩
    have HF1 := hid ((alloc_fr w _ _).trans hf1)
    clear hf1
    go_wp2_with fail
    refine (head_any _).mono ?_
    rintro e w4 ⟨rfl, hf4⟩
    have HF4 := hid (HF1.out.trans hf4)
    clear hf4
    go_wp2_with fail
    go_ret
    exact ⟨rfl, HF4.out⟩
end Go.Proofs.Ytfdkinghcalhfaa
