/- EpochSets returns true for every number of pins and every script; no conditions. -/
import Derived.Test.YtimefcmemklhpaaESet
import Derived.Below
import Derived.Carry
namespace Go.Proofs.Ytimefcmemklhpaa.E
open Go.ChangeShapes Go.WideShapes Go.ChangeAt Go.RowKit

theorem argOwn : ownKnob Try.prog.godebug = none := by kernel_rfl
theorem argLaid : laidOutB Try.prog = true := by kernel_rfl
set_option maxRecDepth 100000 in
theorem lives_lifted (os : Os) (started : os.Started) (H : Type) (enc : TypeId × Value → H) :
    ReturnsInHanded {} Try.checked os 5 .any (Rows.epochSetsSpec.pre6 enc Try.prog Try.f5 Rows.epochSetsRow.domain false) (Rows.epochSetsSpec.post enc Try.prog Try.f5 false true false false) := by
  refine returnsInHanded_of_change (C := Try.checked) argOwn started (by kernel_rfl) Try.func5
    (ChangeSpec.witness6 (enc := enc) (C := Try.checked) false ⟨#[], #[.int .i64 0, .slice none 0 0], []⟩ 8 (by kernel_rfl) (by kernel_rfl) (by kernel_rfl) (by kernel_rfl)) ?_
  intro W base args ds gs before hval0 hW hcnd _
  have hval : ∀ (j : Nat) t v, Try.f5.params[j]? = some t → args[j]? = some v → Value.okWide Try.prog W .any base t v := hval0
  have hW' := hW
  obtain ⟨p, q, hA0, hV, rfl, hfz, hnd⟩ := hW
  have hA : DataW.TrodAll enc Try.prog W 0 (fun _ => true) true Try.f5.params.toList args.toList ds p := hA0
  rw [Try.params5] at hA hval
  obtain ⟨v0, v1, d0, d1, p0, p1, rfl, rfl, rfl, h0, h1⟩ := trodAll_two hA
  obtain ⟨rfl, rfl⟩ := trodVars_none hV
  obtain ⟨x0, rfl, rfl, rfl, w0⟩ := open_int Try.underlying3 (hval 0 3 v0 rfl rfl) h0
  obtain ⟨a1, len1, cap1, rfl⟩ := okWide_slice Try.underlying22 (hval 1 22 v1 rfl rfl)
  have lt1 : ∀ x ∈ p1, x.block < W.heap.size := by obtain ⟨m, hm⟩ := h1; exact DataW.trod_lt m _ _ _ hm
  obtain ⟨ss1, hS1⟩ : ∃ ss : List Stp, Sc W (.slice a1 len1 cap1) ss := by
    obtain ⟨f0, hf0⟩ := h1
    have hf0' : DataW.trod enc Try.prog W 0 (fun _ => true) true f0 22 [.slice a1 len1 cap1] = some (d1, p1) := by simpa [Value.cells] using hf0
    exact sc_of_trod hf0'
  refine (sets_walk W x0 hS1).mono fun e W' ⟨he, hf⟩ => ?_
  subst he
  have bel : Below W.heap.size W W' := hf.below (Nat.le_refl _) (fun _ h => h.elim)
  exact ⟨_, rfl, _, _, _, [], _, [], hW', trodAll_mk1 (shut_bool Try.underlying4 _), trodAll_mk2 (shut_int Try.underlying3 w0) (Below.trod argLaid (by kernel_rfl) (of_decide_eq_true (by kernel_rfl)) h1 bel lt1), rfl, bel.frame _, fun h => by cases h⟩

theorem lives_over : Rows.epochSetsRow.holds Try.pinned (OpenSpec.ofChange Rows.epochSetsSpec) :=
  OpenClaim.holds_of_wide 5 Try.f5 rfl rfl rfl rfl rfl rfl rfl ⟨rfl, rfl, rfl, rfl, rfl⟩ rfl rfl rfl rfl rfl (by kernel_rfl) Try.func5 (by kernel_rfl)
    (of_decide_eq_true (by kernel_rfl)) (by unfold Func.isWrapper; first | (rw [if_pos (by decide +kernel)]; kernel_rfl) | (rw [if_neg (by decide +kernel)]; exact ⟨rfl, rfl⟩))
    (fun os started H enc _ => lives_lifted os started H enc)
end Go.Proofs.Ytimefcmemklhpaa.E
namespace Go.Proofs.Ytimefcmemklhpaa
theorem epochSets_holds : Rows.EpochSetsSaid := E.lives_over
#print axioms epochSets_holds
end Go.Proofs.Ytimefcmemklhpaa
