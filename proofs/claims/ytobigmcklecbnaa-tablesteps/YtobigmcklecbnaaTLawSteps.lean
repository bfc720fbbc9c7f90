/- TableSteps returns true for every row of texts and every row of ints; no conditions. -/
import Derived.Test.YtobigmcklecbnaaTSteps
import Derived.SliceStrings
namespace Go.Proofs.Ytobigmcklecbnaa
open Go.ChangeShapes Go.WideShapes Go.ChangeAt Go.RowKit

theorem is_of_trod {H : Type} {enc : TypeId × Value → H} {W : World} {base : Nat} {held : Bool} {fuel : Nat} {c : Value} {x : DataW H × List MemPlace} (h : DataW.trod enc Try.prog W base (fun _ => true) held fuel 43 [c] = some x) :
    ∃ xs : List Int, Is W c xs := by
  rcases open_ints Try.underlying43 Try.underlying3 Try.cellsInt h with ⟨hcs, hx⟩ | ⟨a, len', cap', zs, hcs, _, hl, hm, hz, hx, hcell, hwz⟩
  · simp at hcs
    subst hcs
    exact ⟨[], ⟨none, 0, rfl, fun h => absurd rfl h⟩⟩
  · simp at hcs
    subst hcs
    simp only [if_true] at hz
    have hlt : (zs.take len').length = len' := by simp; omega
    refine ⟨zs.take len', ⟨some a, cap', by rw [hlt], fun hne => ?_⟩⟩
    have hpos : 0 < len' := by
      rcases Nat.eq_zero_or_pos len' with h0 | h0
      · subst h0
        simp at hne
      · exact h0
    obtain ⟨b, off, rfl⟩ := addr_plain (hcell 0 (by omega))
    refine ⟨b, off, rfl, fun i hi => ?_⟩
    rw [hlt] at hi
    have hc := hcell i (by omega)
    rw [Addr.add_lit] at hc
    rw [hc]
    simp [List.getD, hi]
theorem ks_of_trod {H : Type} {enc : TypeId × Value → H} {W : World} {base : Nat} {held : Bool} {fuel : Nat} {c : Value} {x : DataW H × List MemPlace} (h : DataW.trod enc Try.prog W base (fun _ => true) held fuel 50 [c] = some x) :
    ∃ ks : List ByteArray, Ks W c ks := by
  rcases open_strings Try.underlying50 Try.underlying9 Try.cellsStr h with ⟨hcs, hx⟩ | ⟨a, len', cap', zs, hcs, _, hl, hm, hz, hx, hcell, hwz⟩
  · simp at hcs
    subst hcs
    exact ⟨[], ⟨none, 0, rfl, fun h => absurd rfl h⟩⟩
  · simp at hcs
    subst hcs
    simp only [if_true] at hz
    have hlt : (zs.take len').length = len' := by simp; omega
    refine ⟨zs.take len', ⟨some a, cap', by rw [hlt], fun hne => ?_⟩⟩
    have hpos : 0 < len' := by
      rcases Nat.eq_zero_or_pos len' with h0 | h0
      · subst h0
        simp at hne
      · exact h0
    obtain ⟨b, off, rfl⟩ := addr_plain (hcell 0 (by omega))
    refine ⟨b, off, rfl, fun i hi => ?_⟩
    rw [hlt] at hi
    have hiz : i < zs.length := by omega
    have hc := hcell i hiz
    rw [Addr.add_lit] at hc
    have e1 : (zs.take len').getD i none8 = zs.getD i ByteArray.empty := by simp [List.getD, hi, hiz]
    rw [e1]
    refine ⟨hc, ?_⟩
    have hm2 : zs.getD i ByteArray.empty ∈ zs := by simp [List.getD, hiz]
    have := hwz _ hm2
    unfold maxLen at this
    exact this

set_option maxRecDepth 100000 in
theorem steps_lifted (os : Os) (started : os.Started) (H : Type) (enc : TypeId × Value → H) :
    ReturnsInHanded {} Try.checked os 7 .any (Rows.tableStepsSpec.pre6 enc Try.prog Try.f7 Rows.tableStepsRow.domain false) (Rows.tableStepsSpec.post enc Try.prog Try.f7 false true false false) := by
  refine returnsInHanded_of_change (C := Try.checked) argOwn started (by kernel_rfl) Try.func7
    (ChangeSpec.witness6 (enc := enc) (C := Try.checked) false ⟨#[], #[.slice none 0 0, .slice none 0 0], []⟩ 8 (by kernel_rfl) (by kernel_rfl) (by kernel_rfl) (by kernel_rfl)) ?_
  intro W base args ds gs before hval0 hW hcnd _
  have hval : ∀ (j : Nat) t v, Try.f7.params[j]? = some t → args[j]? = some v → Value.okWide Try.prog W .any base t v := hval0
  have hW' := hW
  obtain ⟨p, q, hA0, hV, rfl, hfz, hnd⟩ := hW
  have hA : DataW.TrodAll enc Try.prog W 0 (fun _ => true) true Try.f7.params.toList args.toList ds p := hA0
  rw [Try.params7] at hA hval
  obtain ⟨v0, v1, d0, d1, p0, p1, rfl, rfl, rfl, h0, h1⟩ := trodAll_two hA
  obtain ⟨rfl, rfl⟩ := trodVars_none hV
  obtain ⟨a0, len0, cap0, rfl⟩ := okWide_slice Try.underlying50 (hval 0 50 v0 rfl rfl)
  obtain ⟨a1, len1, cap1, rfl⟩ := okWide_slice Try.underlying43 (hval 1 43 v1 rfl rfl)
  have lt0 : ∀ x ∈ p0, x.block < W.heap.size := by obtain ⟨m, hm⟩ := h0; exact DataW.trod_lt m _ _ _ hm
  have lt1 : ∀ x ∈ p1, x.block < W.heap.size := by obtain ⟨m, hm⟩ := h1; exact DataW.trod_lt m _ _ _ hm
  obtain ⟨ks, hK⟩ : ∃ ks : List ByteArray, Ks W (.slice a0 len0 cap0) ks := by
    obtain ⟨f0, hf0⟩ := h0
    have hf0' : DataW.trod enc Try.prog W 0 (fun _ => true) true f0 50 [.slice a0 len0 cap0] = some (d0, p0) := by simpa [Value.cells] using hf0
    exact ks_of_trod hf0'
  obtain ⟨xs, hI⟩ : ∃ xs : List Int, Is W (.slice a1 len1 cap1) xs := by
    obtain ⟨f1, hf1⟩ := h1
    have hf1' : DataW.trod enc Try.prog W 0 (fun _ => true) true f1 43 [.slice a1 len1 cap1] = some (d1, p1) := by simpa [Value.cells] using hf1
    exact is_of_trod hf1'
  refine (steps_walk W hK hI).mono fun e W' ⟨he, hf⟩ => ?_
  subst he
  have bel : Below W.heap.size W W' := hf.below (Nat.le_refl _) (fun _ h => h.elim)
  exact ⟨_, rfl, _, _, _, [], _, [], hW', trodAll_mk1 (shut_bool Try.underlying4 _), trodAll_mk2 (Below.trod argLaid (by kernel_rfl) (of_decide_eq_true (by kernel_rfl)) h0 bel lt0) (Below.trod argLaid (by kernel_rfl) (of_decide_eq_true (by kernel_rfl)) h1 bel lt1), rfl, bel.frame _, fun h => by cases h⟩

theorem steps_over : Rows.tableStepsRow.holds Try.pinned (OpenSpec.ofChange Rows.tableStepsSpec) :=
  OpenClaim.holds_of_wide 7 Try.f7 rfl rfl rfl rfl rfl rfl rfl ⟨rfl, rfl, rfl, rfl, rfl⟩ rfl rfl rfl rfl rfl (by kernel_rfl) Try.func7 (by kernel_rfl)
    (of_decide_eq_true (by kernel_rfl)) (by unfold Func.isWrapper; first | (rw [if_pos (by decide +kernel)]; kernel_rfl) | (rw [if_neg (by decide +kernel)]; exact ⟨rfl, rfl⟩))
    (fun os started H enc _ => steps_lifted os started H enc)

theorem tableSteps_holds : Rows.TableStepsSaid := steps_over
#print axioms tableSteps_holds
end Go.Proofs.Ytobigmcklecbnaa
