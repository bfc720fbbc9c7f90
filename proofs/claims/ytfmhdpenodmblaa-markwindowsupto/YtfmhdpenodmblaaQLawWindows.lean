/- MarkWindows returns true for every times, views and marks, where they together are of bulk at most the Rows text's number. -/
import Derived.Test.YtfmhdpenodmblaaQWindows
import Derived.Test.YtfmhdpenodmblaaQArgs
import Derived.Carry
import Derived.ChangeMaps5
import Derived.Below
import Derived.JoinedCond
namespace Go.Proofs.Ytfmhdpenodmblaa
open Go.ChangeShapes Go.WideShapes Go.ChangeAt Go.RowKit

theorem lawOwn : ownKnob Try.prog.godebug = none := by kernel_rfl
theorem lawLaid : laidOutB Try.prog = true := by kernel_rfl
set_option maxRecDepth 100000 in
theorem law_lifted (os : Os) (started : os.Started) (H : Type) (enc : TypeId × Value → H) (F : Stop.Interp) :
    ReturnsInHanded {} Try.checked os 8 .any ((Rows.OpenSpec.upto Rows.markWindowsSpec).pre6 enc Try.prog Try.f8 Rows.markWindowsUptoRow.domain false) (((Rows.OpenSpec.upto Rows.markWindowsSpec).at F).post enc Try.prog Try.f8 false true false false) := by
  refine returnsInHanded_of_cond (C := Try.checked) (s := Rows.OpenSpec.upto Rows.markWindowsSpec) (k := Rows.uptoSmall) rfl lawOwn started (by kernel_rfl) Try.func8
    (OpenSpec.witness (enc := enc) (C := Try.checked) (s := Rows.OpenSpec.upto Rows.markWindowsSpec) (k := Rows.uptoSmall) rfl false ⟨#[], #[.slice none 0 0, .slice none 0 0, .slice none 0 0], []⟩ 8 (by kernel_rfl) (by kernel_rfl) (by kernel_rfl)
      (x := ([.nil, .nil, .nil], [], [])) (by kernel_rfl) rfl (by kernel_rfl)) ?_
  intro V base args ds gs before hval0 hW _ _ _
  have hval : ∀ (j : Nat) t v, Try.f8.params[j]? = some t → args[j]? = some v → Value.okWide Try.prog V .any base t v := hval0
  have hW' := hW
  obtain ⟨p, q, hA0, hV, rfl, _, _⟩ := hW
  have hA : DataW.TrodAll enc Try.prog V 0 (fun _ => true) true Try.f8.params.toList args.toList ds p := hA0
  rw [Try.params8] at hA hval
  obtain ⟨v0, vs0, d0, ds0, p0, q0, hargs, rfl, rfl, h0, hr0⟩ := trodAll_cons hA
  obtain ⟨v1, vs1, d1, ds1, p1, q1, rfl, rfl, rfl, h1, hr1⟩ := trodAll_cons hr0
  obtain ⟨v2, vs2, d2, ds2, p2, q2, rfl, rfl, rfl, h2, hr2⟩ := trodAll_cons hr1
  obtain ⟨rfl, rfl, rfl⟩ := trodAll_nil hr2
  have hargs' : args = #[v0, v1, v2] := by cases args; simp_all
  subst hargs'
  obtain ⟨rfl, rfl⟩ := trodVars_none hV
  have k0 := h0
  have k1 := h1
  have k2 := h2
  have lt0 : ∀ x ∈ p0, x.block < V.heap.size := by obtain ⟨m, hm⟩ := h0; exact DataW.trod_lt m _ _ _ hm
  have lt1 : ∀ x ∈ p1, x.block < V.heap.size := by obtain ⟨m, hm⟩ := h1; exact DataW.trod_lt m _ _ _ hm
  have lt2 : ∀ x ∈ p2, x.block < V.heap.size := by obtain ⟨m, hm⟩ := h2; exact DataW.trod_lt m _ _ _ hm
  obtain ⟨a0, len0, cap0, rfl⟩ := okWide_slice Try.underlying43 (hval 0 43 v0 rfl rfl)
  obtain ⟨a1, len1, cap1, rfl⟩ := okWide_slice Try.underlying42 (hval 1 42 v1 rfl rfl)
  obtain ⟨a2, len2, cap2, rfl⟩ := okWide_slice Try.underlying43 (hval 2 43 v2 rfl rfl)
  obtain ⟨L0, hL0⟩ : ∃ L : List Int, Nu V (.slice a0 len0 cap0) L := by
    obtain ⟨f0, hf0⟩ := h0
    have hf0' : DataW.trod enc Try.prog V 0 (fun _ => true) true f0 43 [.slice a0 len0 cap0] = some (d0, p0) := by simpa [Value.cells] using hf0
    exact nu_of_trod Try.underlying43 Try.underlying2 Try.cI64 hf0'
  obtain ⟨L1, hL1⟩ : ∃ L : List Vw, Vs V (.slice a1 len1 cap1) L := by
    obtain ⟨f0, hf0⟩ := h1
    have hf0' : DataW.trod enc Try.prog V 0 (fun _ => true) true f0 42 [.slice a1 len1 cap1] = some (d1, p1) := by simpa [Value.cells] using hf0
    exact vs_of_trod hf0'
  obtain ⟨L2, hL2⟩ : ∃ L : List Int, Nu V (.slice a2 len2 cap2) L := by
    obtain ⟨f0, hf0⟩ := h2
    have hf0' : DataW.trod enc Try.prog V 0 (fun _ => true) true f0 43 [.slice a2 len2 cap2] = some (d2, p2) := by simpa [Value.cells] using hf0
    exact nu_of_trod Try.underlying43 Try.underlying2 Try.cI64 hf0'
  refine (windows_walk  hL0 hL1 hL2).mono fun e V' ⟨he, hf⟩ => ?_
  subst he
  have bel : Below V.heap.size V V' := hf.below (Nat.le_refl _) (fun _ h => h.elim)
  exact ⟨_, rfl, _, _, _, [], _, [], hW', trodAll_mk1 (shut_bool Try.underlying4 _), trodAll_mk3 (Below.trod lawLaid (by kernel_rfl) (of_decide_eq_true (by kernel_rfl)) k0 bel lt0) (Below.trod lawLaid (by kernel_rfl) (of_decide_eq_true (by kernel_rfl)) k1 bel lt1) (Below.trod lawLaid (by kernel_rfl) (of_decide_eq_true (by kernel_rfl)) k2 bel lt2), rfl, bel.frame _, fun h => by cases h⟩

theorem law_over : Rows.markWindowsUptoRow.holds Try.pinned (Rows.OpenSpec.upto Rows.markWindowsSpec) :=
  OpenClaim.holds_of_cond 8 Try.f8 rfl rfl rfl rfl rfl rfl rfl ⟨rfl, rfl, rfl, rfl, rfl⟩ rfl rfl rfl rfl rfl (by kernel_rfl) Try.func8 (by kernel_rfl)
    (of_decide_eq_true (by kernel_rfl)) (by unfold Func.isWrapper; first | (rw [if_pos (by decide +kernel)]; kernel_rfl) | (rw [if_neg (by decide +kernel)]; exact ⟨rfl, rfl⟩))
    (fun os started H enc _ F => law_lifted os started H enc F)
theorem markWindows_holds : Rows.MarkWindowsUptoSaid := law_over
#print axioms markWindows_holds
end Go.Proofs.Ytfmhdpenodmblaa
