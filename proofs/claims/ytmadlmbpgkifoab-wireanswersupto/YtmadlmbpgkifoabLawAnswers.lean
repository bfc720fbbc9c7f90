/- WireAnswers returns true, and its arguments read afterwards as before, where the arguments together are of bulk at most the Rows text's number. -/
import Derived.Test.YtmadlmbpgkifoabWAns3
import Derived.Test.YtmadlmbpgkifoabBulk
import Derived.Test.YtmadlmbpgkifoabArgs2
import Derived.ProofKit
import Derived.OpenShut
import Derived.Below
import Derived.JoinedCond
namespace Go.Proofs.Ytmadlmbpgkifoab
open Go.ChangeShapes Go.WideShapes Go.ChangeAt Go.RowKit

theorem answersOwn : ownKnob Try.prog.godebug = none := by kernel_rfl
theorem answersLaid : laidOutB Try.prog = true := by kernel_rfl

set_option maxRecDepth 100000 in
theorem answers_lifted (os : Os) (started : os.Started) (H : Type) (enc : TypeId × Value → H) (F : Stop.Interp) :
    ReturnsInHanded {} Try.checked os 8 .any ((Rows.OpenSpec.upto Rows.wireAnswersSpec).pre6 enc Try.prog Try.f8 Rows.wireAnswersUptoRow.domain false) (((Rows.OpenSpec.upto Rows.wireAnswersSpec).at F).post enc Try.prog Try.f8 false true false false) := by
  refine returnsInHanded_of_cond (C := Try.checked) (s := Rows.OpenSpec.upto Rows.wireAnswersSpec) (k := Rows.uptoSmall) rfl answersOwn started (by kernel_rfl) Try.func8
    (OpenSpec.witness (enc := enc) (C := Try.checked) (s := Rows.OpenSpec.upto Rows.wireAnswersSpec) (k := Rows.uptoSmall) rfl false ⟨#[], #[.slice none 0 0, .slice none 0 0], []⟩ 8 (by kernel_rfl) (by kernel_rfl) (by kernel_rfl)
      (x := ([.nil, .nil], [], [])) (by kernel_rfl) rfl (by kernel_rfl)) ?_
  intro W base args ds gs before hval0 hW _ hk _
  have hval : ∀ (j : Nat) t v, Try.f8.params[j]? = some t → args[j]? = some v → Value.okWide Try.prog W .any base t v := hval0
  have hW' := hW
  obtain ⟨p, q, hA0, hV, rfl, _, _⟩ := hW
  have hA : DataW.TrodAll enc Try.prog W 0 (fun _ => true) true Try.f8.params.toList args.toList ds p := hA0
  rw [Try.params8] at hA hval
  obtain ⟨v0, v1, d0, d1, p0, p1, rfl, rfl, rfl, h0, h1⟩ := trodAll_two hA
  obtain ⟨rfl, rfl⟩ := trodVars_none hV
  obtain ⟨a0, len0, cap0, rfl⟩ := okWide_slice Try.underlying22 (hval 0 22 v0 rfl rfl)
  obtain ⟨a1, len1, cap1, rfl⟩ := okWide_slice Try.underlying49 (hval 1 49 v1 rfl rfl)
  have k0 := h0
  have k1 := h1
  have lt0 : ∀ x ∈ p0, x.block < W.heap.size := by obtain ⟨m, hm⟩ := k0; exact DataW.trod_lt m _ _ _ hm
  have lt1 : ∀ x ∈ p1, x.block < W.heap.size := by obtain ⟨m, hm⟩ := k1; exact DataW.trod_lt m _ _ _ hm
  obtain ⟨f0, hf0⟩ := h0
  obtain ⟨f1, hf1⟩ := h1
  have hf0' : DataW.trod enc Try.prog W 0 (fun _ => true) true f0 22 [.slice a0 len0 cap0] = some (d0, p0) := by simpa [Value.cells] using hf0
  have hf1' : DataW.trod enc Try.prog W 0 (fun _ => true) true f1 49 [.slice a1 len1 cap1] = some (d1, p1) := by simpa [Value.cells] using hf1
  have hbk := bulk_all hk
  have hb0 := Nat.le_trans (bulk_mem (show d0 ∈ _ by simp)) hbk
  have hb1 := Nat.le_trans (bulk_mem (show d1 ∈ _ by simp)) hbk
  obtain ⟨cs, hcs⟩ := cls_of_trod hf0' hb0
  obtain ⟨bs, hb8, hbs, hbl, hbg⟩ := bss_bulk hf1'
  have hbl2 : bs.length ≤ 1048576 := Nat.le_trans hbl hb1
  have hbg2 : ∀ g ∈ bs, g.length ≤ 1048576 := fun g hg => Nat.le_trans (hbg g hg) hb1
  clear hA0 hval0
  refine (answers_walk _ _ cs bs W hcs hbs (by omega) (fun g hg => Nat.le_trans (hbg2 g hg) (by omega)) hb8).mono fun e W' ⟨he, bel⟩ => ?_
  subst he
  exact ⟨_, rfl, _, _, _, [], _, [], hW', trodAll_mk1 (shut_bool Try.underlying4 _), trodAll_mk2 (Below.trod answersLaid (by kernel_rfl) (of_decide_eq_true (by kernel_rfl)) k0 bel lt0) (Below.trod answersLaid (by kernel_rfl) (of_decide_eq_true (by kernel_rfl)) k1 bel lt1), rfl, bel.frame _, fun h => by cases h⟩

theorem answers_over : Rows.wireAnswersUptoRow.holds Try.pinned (Rows.OpenSpec.upto Rows.wireAnswersSpec) :=
  OpenClaim.holds_of_cond 8 Try.f8 rfl rfl rfl rfl rfl rfl rfl ⟨rfl, rfl, rfl, rfl, rfl⟩ rfl rfl rfl rfl rfl (by kernel_rfl) Try.func8 (by kernel_rfl)
    (of_decide_eq_true (by kernel_rfl)) (by unfold Func.isWrapper; first | (rw [if_pos (by decide +kernel)]; kernel_rfl) | (rw [if_neg (by decide +kernel)]; exact ⟨rfl, rfl⟩))
    (fun os started H enc _ F => answers_lifted os started H enc F)

theorem wireAnswers_holds : Rows.WireAnswersUptoSaid := answers_over
#print axioms wireAnswers_holds
end Go.Proofs.Ytmadlmbpgkifoab
