/- TableTwins returns true for every three scripts; no conditions. -/
import Derived.Test.YtobigmcklecbnaaTSArgs
namespace Go.Proofs.Ytobigmcklecbnaa
open Go.ChangeShapes Go.WideShapes Go.ChangeAt Go.RowKit

set_option maxRecDepth 100000 in
theorem twins_lifted (os : Os) (started : os.Started) (H : Type) (enc : TypeId × Value → H) :
    ReturnsInHanded {} Try.checked os 8 .any (Rows.tableTwinsSpec.pre6 enc Try.prog Try.f8 Rows.tableTwinsRow.domain false) (Rows.tableTwinsSpec.post enc Try.prog Try.f8 false true false false) := by
  refine returnsInHanded_of_change (C := Try.checked) argOwn started (by kernel_rfl) Try.func8
    (ChangeSpec.witness6 (enc := enc) (C := Try.checked) false ⟨#[], #[.slice none 0 0, .slice none 0 0, .slice none 0 0], []⟩ 8 (by kernel_rfl) (by kernel_rfl) (by kernel_rfl) (by kernel_rfl)) ?_
  intro W base args ds gs before hval0 hW hcnd _
  have hval : ∀ (j : Nat) t v, Try.f8.params[j]? = some t → args[j]? = some v → Value.okWide Try.prog W .any base t v := hval0
  have hW' := hW
  obtain ⟨p, q, hA0, hV, rfl, hfz, hnd⟩ := hW
  have hA : DataW.TrodAll enc Try.prog W 0 (fun _ => true) true Try.f8.params.toList args.toList ds p := hA0
  rw [Try.params8] at hA hval
  obtain ⟨v0, v1, v2, d0, d1, d2, p0, p1, p2, rfl, rfl, rfl, h0, h1, h2⟩ := trodAll_three hA
  obtain ⟨rfl, rfl⟩ := trodVars_none hV
  obtain ⟨a0, len0, cap0, rfl⟩ := okWide_slice Try.underlying30 (hval 0 30 v0 rfl rfl)
  have lt0 : ∀ x ∈ p0, x.block < W.heap.size := by obtain ⟨m, hm⟩ := h0; exact DataW.trod_lt m _ _ _ hm
  obtain ⟨ss0, hS0⟩ : ∃ ss : List Stp, Sc W (.slice a0 len0 cap0) ss := by
    obtain ⟨f0, hf0⟩ := h0
    have hf0' : DataW.trod enc Try.prog W 0 (fun _ => true) true f0 30 [.slice a0 len0 cap0] = some (d0, p0) := by simpa [Value.cells] using hf0
    exact sc_of_trod hf0'
  obtain ⟨a1, len1, cap1, rfl⟩ := okWide_slice Try.underlying30 (hval 1 30 v1 rfl rfl)
  have lt1 : ∀ x ∈ p1, x.block < W.heap.size := by obtain ⟨m, hm⟩ := h1; exact DataW.trod_lt m _ _ _ hm
  obtain ⟨ss1, hS1⟩ : ∃ ss : List Stp, Sc W (.slice a1 len1 cap1) ss := by
    obtain ⟨f0, hf0⟩ := h1
    have hf0' : DataW.trod enc Try.prog W 0 (fun _ => true) true f0 30 [.slice a1 len1 cap1] = some (d1, p1) := by simpa [Value.cells] using hf0
    exact sc_of_trod hf0'
  obtain ⟨a2, len2, cap2, rfl⟩ := okWide_slice Try.underlying30 (hval 2 30 v2 rfl rfl)
  have lt2 : ∀ x ∈ p2, x.block < W.heap.size := by obtain ⟨m, hm⟩ := h2; exact DataW.trod_lt m _ _ _ hm
  obtain ⟨ss2, hS2⟩ : ∃ ss : List Stp, Sc W (.slice a2 len2 cap2) ss := by
    obtain ⟨f0, hf0⟩ := h2
    have hf0' : DataW.trod enc Try.prog W 0 (fun _ => true) true f0 30 [.slice a2 len2 cap2] = some (d2, p2) := by simpa [Value.cells] using hf0
    exact sc_of_trod hf0'
  refine (twins_walk W hS0 hS1 hS2).mono fun e W' ⟨he, hf⟩ => ?_
  subst he
  have bel : Below W.heap.size W W' := hf.below (Nat.le_refl _) (fun _ h => h.elim)
  exact ⟨_, rfl, _, _, _, [], _, [], hW', trodAll_mk1 (shut_bool Try.underlying4 _), trodAll_mk3 (Below.trod argLaid (by kernel_rfl) (of_decide_eq_true (by kernel_rfl)) h0 bel lt0) (Below.trod argLaid (by kernel_rfl) (of_decide_eq_true (by kernel_rfl)) h1 bel lt1) (Below.trod argLaid (by kernel_rfl) (of_decide_eq_true (by kernel_rfl)) h2 bel lt2), rfl, bel.frame _, fun h => by cases h⟩

theorem twins_over : Rows.tableTwinsRow.holds Try.pinned (OpenSpec.ofChange Rows.tableTwinsSpec) :=
  OpenClaim.holds_of_wide 8 Try.f8 rfl rfl rfl rfl rfl rfl rfl ⟨rfl, rfl, rfl, rfl, rfl⟩ rfl rfl rfl rfl rfl (by kernel_rfl) Try.func8 (by kernel_rfl)
    (of_decide_eq_true (by kernel_rfl)) (by unfold Func.isWrapper; first | (rw [if_pos (by decide +kernel)]; kernel_rfl) | (rw [if_neg (by decide +kernel)]; exact ⟨rfl, rfl⟩))
    (fun os started H enc _ => twins_lifted os started H enc)

theorem tableTwins_holds : Rows.TableTwinsSaid := twins_over
#print axioms tableTwins_holds
end Go.Proofs.Ytobigmcklecbnaa
