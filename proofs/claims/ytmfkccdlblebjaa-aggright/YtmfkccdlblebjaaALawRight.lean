/- AggRight returns true for every aggregate; no conditions. -/
import Derived.Test.YtmfkccdlblebjaaARefR
import Derived.Test.YtmfkccdlblebjaaAArgAg
import Derived.ProofKit
import Derived.OpenShut
import Derived.Below
import Derived.Deep.Slices
namespace Go.Proofs.Ytmfkccdlblebjaa
open Go.ChangeShapes Go.WideShapes Go.ChangeAt Go.RowKit

set_option maxHeartbeats 1000000 in
theorem rright_any (a : Ag) (ha : a.ok) (w : World) :
    Calls Try.prog 7 #[.agg #[.int .i64 a.c, .int .i64 a.s, .int .i64 a.lo, .int .i64 a.hi]] w fun e w' =>
      e = .returned (.bool (rightB a.c a.s a.lo a.hi)) ∧ Fr w w' (fun _ => False) := by
  by_cases h1 : a.c < 0
  · have hr : rightB a.c a.s a.lo a.hi = false := by unfold rightB; rw [if_pos (by omega)]; simp; omega
    rw [hr]
    have t1 : a.c ≤ 0 := by omega
    have t2 : ¬ a.c = 0 := by omega
    clear hr h1
    go_enter Try.func7, Try.ntmps7
    go_wp2
    all_goals (go_ret; exact ⟨rfl, alloc_fr _ _ _⟩)
  by_cases h2 : a.c = 0
  · have hr : rightB a.c a.s a.lo a.hi = decide (a.s = 0 ∧ a.lo = 0 ∧ a.hi = 0) := by unfold rightB; rw [if_pos (by omega), h2]; simp
    rw [hr, h2]
    clear hr h1 h2 ha
    go_enter Try.func7, Try.ntmps7
    go_wp2
    all_goals (go_ret; refine ⟨ret_bool ?_, alloc_fr _ _ _⟩; simp [*])
  by_cases h3 : a.c = 1
  · have hr : rightB a.c a.s a.lo a.hi = decide (a.s = a.lo ∧ a.s = a.hi) := by unfold rightB; rw [if_neg (by omega), if_pos h3]
    rw [hr, h3]
    clear hr h1 h2 h3 ha
    by_cases h4 : a.s = a.lo
    · have h4b : (a.s == a.lo) = true := by simpa using h4
      have H4 := hid h4
      clear h4
      go_enter Try.func7, Try.ntmps7
      go_wp2
      all_goals (go_ret; refine ⟨ret_bool ?_, alloc_fr _ _ _⟩)
      all_goals (have := H4.out; rw [Bool.eq_iff_iff]; simp; try omega)
    · have h4b : (a.s == a.lo) = false := by simpa using h4
      have H4 := hid h4
      clear h4
      go_enter Try.func7, Try.ntmps7
      go_wp2
      all_goals (go_ret; refine ⟨ret_bool ?_, alloc_fr _ _ _⟩)
      all_goals (have := H4.out; rw [eq_comm, decide_eq_false_iff_not]; omega)
  have hc : ¬ a.c ≤ 0 := by omega
  have hr : rightB a.c a.s a.lo a.hi = decide (a.lo ≤ a.hi ∧ (a.c - 2) * a.lo + a.lo + a.hi ≤ a.s ∧ a.s ≤ (a.c - 2) * a.hi + a.lo + a.hi) := by unfold rightB; rw [if_neg hc, if_neg h3]
  by_cases h4 : a.lo ≤ a.hi
  · rw [hr]
    refine (refSum_any a ha (by omega) h4 w).mono fun e w' ⟨he, hf⟩ => ⟨?_, hf⟩
    rw [he]
    exact ret_bool (by rw [Bool.eq_iff_iff]; simp [h4])
  · have hr2 : rightB a.c a.s a.lo a.hi = false := by rw [hr, decide_eq_false_iff_not]; omega
    rw [hr2]
    have t4 : a.hi < a.lo := by omega
    have h6 : (a.c == 0) = false := by simpa using h2
    have h7 : (a.c == 1) = false := by simpa using h3
    clear hr hr2 h2 h3 h4
    go_enter Try.func7, Try.ntmps7
    go_wp2
    go_ret
    exact ⟨rfl, alloc_fr _ _ _⟩

theorem keep_all {w W : World} {a : Ag} (h : SB w [(w.heap.size, agO a)] W) : Hid (SB w [(w.heap.size, agO a)] W) ∧ W.cell? ⟨w.heap.size, 0, none⟩ = some (.int .i64 a.c) ∧ W.cell? ⟨w.heap.size, 1, none⟩ = some (.int .i64 a.s) ∧ W.cell? ⟨w.heap.size, 2, none⟩ = some (.int .i64 a.lo) ∧ W.cell? ⟨w.heap.size, 3, none⟩ = some (.int .i64 a.hi) := by
  obtain ⟨c0, c1, c2, c3⟩ := sb_pick h (a := a) (B := w.heap.size) (by simp)
  exact ⟨h, c0, c1, c2, c3⟩

set_option maxHeartbeats 2000000 in
theorem rightLaw_walk (a : Ag) (ha : a.ok) (w : World) : Calls Try.prog 3 #[.agg #[.int .i64 a.c, .int .i64 a.s, .int .i64 a.lo, .int .i64 a.hi]] w fun e w' => e = .returned (.bool true) ∧ Fr w w' (fun _ => False) := by
  have HA : Hid (SB w [(w.heap.size, agO a)] (w.alloc (.cells #[.int .i64 a.c, .int .i64 a.s, .int .i64 a.lo, .int .i64 a.hi] 23))) := ⟨fun q hq => by simp only [List.mem_singleton] at hq; subst hq; exact heap_last _ _ _ rfl, alloc_fr _ _ _⟩
  have HR1 := hid (fun W : World => right_any a ha W)
  have HR2 := hid (fun W : World => rright_any a ha W)
  generalize rightB a.c a.s a.lo a.hi = b at *
  clear ha
  go_enter Try.func3, Try.ntmps3
  go_wp2_with fail
  refine (known_any _).mono ?_
  rintro e w1 ⟨rfl, hf⟩
  have HA := hid (HA.out.step hf)
  clear hf
  go_wp2_with fail
  go_region_held3 (fun W' => Hid (SB w [(w.heap.size, agO a)] W') ∧ W'.cell? ⟨w.heap.size, 0, none⟩ = some (.int .i64 a.c) ∧ W'.cell? ⟨w.heap.size, 1, none⟩ = some (.int .i64 a.s) ∧ W'.cell? ⟨w.heap.size, 2, none⟩ = some (.int .i64 a.lo) ∧ W'.cell? ⟨w.heap.size, 3, none⟩ = some (.int .i64 a.hi))
    ((refine keep_all ?_; repeat (first | exact HA.out | apply SB.drew | apply SB.alloc)))
    (first
      | (go_at_call 6; refine (HR1.out _).mono ?_; rintro e v1 ⟨rfl, hf⟩; have HA := hid (SB.step (by repeat (first | exact HA.out | apply SB.drew | apply SB.alloc)) hf); clear hf)
      | (go_at_call 7; refine (HR2.out _).mono ?_; rintro e v1 ⟨rfl, hf⟩; have HA := hid (SB.step (by repeat (first | exact HA.out | apply SB.drew | apply SB.alloc)) hf); clear hf))
  all_goals (go_wp2_with fail)
  all_goals go_ret
  all_goals exact ⟨rfl, HA.out.2⟩

theorem rightOwn : ownKnob Try.prog.godebug = none := by kernel_rfl
theorem rightLaid : laidOutB Try.prog = true := by kernel_rfl

set_option maxRecDepth 100000 in
theorem rightLaw_lifted (os : Os) (started : os.Started) (H : Type) (enc : TypeId × Value → H) :
    ReturnsInHanded {} Try.checked os 3 .any (Rows.aggRightSpec.pre6 enc Try.prog Try.f3 Rows.aggRightRow.domain false) (Rows.aggRightSpec.post enc Try.prog Try.f3 false true false false) := by
  refine returnsInHanded_of_change (C := Try.checked) rightOwn started (by kernel_rfl) Try.func3
    (ChangeSpec.witness6 (enc := enc) (C := Try.checked) false ⟨#[], #[.agg #[.int .i64 0, .int .i64 0, .int .i64 0, .int .i64 0]], []⟩ 8 (by kernel_rfl) (by kernel_rfl) (by kernel_rfl) (by kernel_rfl)) ?_
  intro W base args ds gs before hval0 hW hcnd _
  have hval : ∀ (j : Nat) t v, Try.f3.params[j]? = some t → args[j]? = some v → Value.okWide Try.prog W .any base t v := hval0
  have hW' := hW
  obtain ⟨p, q, hA0, hV, rfl, hfz, hnd⟩ := hW
  have hA : DataW.TrodAll enc Try.prog W 0 (fun _ => true) true Try.f3.params.toList args.toList ds p := hA0
  rw [Try.params3] at hA hval
  obtain ⟨v0, d0, rfl, rfl, h0⟩ := trodAll_one hA
  obtain ⟨rfl, rfl⟩ := trodVars_none hV
  obtain ⟨a, ha, rfl⟩ := ag_of_arg (hval 0 23 v0 rfl rfl) h0
  have lt0 : ∀ x ∈ p, x.block < W.heap.size := by obtain ⟨m, hm⟩ := h0; exact DataW.trod_lt m _ _ _ hm
  refine (rightLaw_walk a ha W).mono fun e W' ⟨he, hf⟩ => ?_
  subst he
  have bel : Below W.heap.size W W' := hf.below (Nat.le_refl _) (fun _ h => h.elim)
  exact ⟨_, rfl, _, _, _, [], _, [], hW', trodAll_mk1 (shut_bool Try.underlying4 _), trodAll_mk1 (Below.trod rightLaid (by kernel_rfl) (of_decide_eq_true (by kernel_rfl)) h0 bel lt0), rfl, bel.frame _, fun h => by cases h⟩

theorem rightLaw_over : Rows.aggRightRow.holds Try.pinned (OpenSpec.ofChange Rows.aggRightSpec) :=
  OpenClaim.holds_of_wide 3 Try.f3 rfl rfl rfl rfl rfl rfl rfl ⟨rfl, rfl, rfl, rfl, rfl⟩ rfl rfl rfl rfl rfl (by kernel_rfl) Try.func3 (by kernel_rfl)
    (of_decide_eq_true (by kernel_rfl)) (by unfold Func.isWrapper; first | (rw [if_pos (by decide +kernel)]; kernel_rfl) | (rw [if_neg (by decide +kernel)]; exact ⟨rfl, rfl⟩))
    (fun os started H enc _ => rightLaw_lifted os started H enc)

theorem aggRight_holds : Rows.AggRightSaid := rightLaw_over
#print axioms aggRight_holds
end Go.Proofs.Ytmfkccdlblebjaa
