/- ChainBook returns true for every three lists of ints; no conditions. -/
import Derived.Test.YtcmniejffpoinabCBook2
import Derived.ProofKit
import Derived.OpenShut
import Derived.Below
import Derived.Carry
import Derived.SizedLaws
import Derived.Deep.Slices
import Derived.ChangeSlices
namespace Go.Proofs.Ytcmniejffpoinab
open Go.ChangeShapes Go.WideShapes Go.ChangeAt Go.RowKit

theorem argOwn : ownKnob Try.prog.godebug = none := by kernel_rfl
theorem argLaid : laidOutB Try.prog = true := by kernel_rfl
theorem addr_plain {W : World} {a : Addr} {v : Value} (h : W.cell? (a.add 0) = some v) : ∃ b off, a = ⟨b, off, none⟩ := by
  obtain ⟨b, off, spot⟩ := a
  have hspot : spot = none := by simpa [Addr.add] using World.cell?_spot h
  exact ⟨b, off, by rw [hspot]⟩
theorem Try.cellsInt : Try.prog.cellsOf 3 = 1 := by kernel_rfl
theorem is_of_trod {H : Type} {enc : TypeId × Value → H} {W : World} {base : Nat} {held : Bool} {fuel : Nat} {c : Value} {x : DataW H × List MemPlace} (h : DataW.trod enc Try.prog W base (fun _ => true) held fuel 22 [c] = some x) :
    ∃ xs : List Int, Is W c xs ∧ Cp c := by
  rcases open_ints Try.underlying22 Try.underlying3 Try.cellsInt h with ⟨hcs, hx⟩ | ⟨a, len', cap', zs, hcs, _, hl, hm, hz, hx, hcell, hwz⟩
  · simp at hcs
    subst hcs
    exact ⟨[], ⟨none, 0, rfl, by simp, by simp, fun h => absurd rfl h⟩, fun ao n cap e => by simp at e; omega⟩
  · simp at hcs
    subst hcs
    simp only [if_true] at hz
    have hlt : (zs.take len').length = len' := by simp; omega
    unfold maxLen at hm
    refine ⟨zs.take len', ⟨some a, cap', by rw [hlt], by rw [hlt]; omega, fun y hy => bounds_i64 (hwz y (List.mem_of_mem_take hy)), fun hne => ?_⟩, fun ao n cap e => by simp at e; omega⟩
    have hpos : 0 < len' := by
      rcases Nat.eq_zero_or_pos len' with h0 | h0
      · subst h0
        simp at hne
      · exact h0
    obtain ⟨b, off, rfl⟩ := addr_plain (hcell 0 (by omega))
    refine ⟨b, off, rfl, fun i hi => ?_⟩
    rw [hlt] at hi
    have hc := hcell i (by omega)
    rw [Addr.add_lit] at hc
    rw [hc]
    simp [List.getD, hi]

theorem nz_of_trod {H : Type} {enc : TypeId × Value → H} {W : World} {base : Nat} {held : Bool} {fuel : Nat} {c : Value} {x : DataW H × List MemPlace} (h : DataW.trod enc Try.prog W base (fun _ => true) held fuel 22 [c] = some x) : Nz c := by
  intro n cap e
  rcases open_ints Try.underlying22 Try.underlying3 Try.cellsInt h with ⟨hcs, _⟩ | ⟨a, len', cap', zs, hcs, _⟩
  · simp at hcs
    rw [hcs] at e
    simp at e
    exact ⟨e.1.symm, e.2.symm⟩
  · simp at hcs
    rw [hcs] at e
    simp at e

set_option maxRecDepth 100000 in
theorem chainBook_lifted (os : Os) (started : os.Started) (H : Type) (enc : TypeId × Value → H) :
    ReturnsInHanded {} Try.checked os 3 .any (Rows.chainBookSpec.pre6 enc Try.prog Try.f3 Rows.chainBookRow.domain false) (Rows.chainBookSpec.post enc Try.prog Try.f3 false true false false) := by
  refine returnsInHanded_of_change (C := Try.checked) argOwn started (by kernel_rfl) Try.func3
    (ChangeSpec.witness6 (enc := enc) (C := Try.checked) false ⟨#[], #[.slice none 0 0, .slice none 0 0, .slice none 0 0], []⟩ 8 (by kernel_rfl) (by kernel_rfl) (by kernel_rfl) (by kernel_rfl)) ?_
  intro W base args ds gs before hval0 hW hcnd _
  have hval : ∀ (j : Nat) t v, Try.f3.params[j]? = some t → args[j]? = some v → Value.okWide Try.prog W .any base t v := hval0
  have hW' := hW
  obtain ⟨p, q, hA0, hV, rfl, hfz, hnd⟩ := hW
  have hA : DataW.TrodAll enc Try.prog W 0 (fun _ => true) true Try.f3.params.toList args.toList ds p := hA0
  rw [Try.params3] at hA hval
  obtain ⟨v0, v1, v2, d0, d1, d2, p0, p1, p2, rfl, rfl, rfl, h0, h1, h2⟩ := trodAll_three hA
  obtain ⟨rfl, rfl⟩ := trodVars_none hV
  obtain ⟨a0, len0, cap0, rfl⟩ := okWide_slice Try.underlying22 (hval 0 22 v0 rfl rfl)
  obtain ⟨a1, len1, cap1, rfl⟩ := okWide_slice Try.underlying22 (hval 1 22 v1 rfl rfl)
  obtain ⟨a2, len2, cap2, rfl⟩ := okWide_slice Try.underlying22 (hval 2 22 v2 rfl rfl)
  have lt0 : ∀ x ∈ p0, x.block < W.heap.size := by obtain ⟨m, hm⟩ := h0; exact DataW.trod_lt m _ _ _ hm
  have lt1 : ∀ x ∈ p1, x.block < W.heap.size := by obtain ⟨m, hm⟩ := h1; exact DataW.trod_lt m _ _ _ hm
  have lt2 : ∀ x ∈ p2, x.block < W.heap.size := by obtain ⟨m, hm⟩ := h2; exact DataW.trod_lt m _ _ _ hm
  obtain ⟨es, hE⟩ : ∃ xs : List Int, Is W (.slice a0 len0 cap0) xs := by
    obtain ⟨f1, hf1⟩ := h0
    have hf1' : DataW.trod enc Try.prog W 0 (fun _ => true) true f1 22 [.slice a0 len0 cap0] = some (d0, p0) := by simpa [Value.cells] using hf1
    obtain ⟨xs, hI, _⟩ := is_of_trod hf1'
    exact ⟨xs, hI⟩
  obtain ⟨hs, hH, hnz⟩ : ∃ xs : List Int, Is W (.slice a1 len1 cap1) xs ∧ Nz (.slice a1 len1 cap1) := by
    obtain ⟨f1, hf1⟩ := h1
    have hf1' : DataW.trod enc Try.prog W 0 (fun _ => true) true f1 22 [.slice a1 len1 cap1] = some (d1, p1) := by simpa [Value.cells] using hf1
    obtain ⟨xs, hI, _⟩ := is_of_trod hf1'
    exact ⟨xs, hI, nz_of_trod hf1'⟩
  obtain ⟨ms, hM⟩ : ∃ xs : List Int, Is W (.slice a2 len2 cap2) xs := by
    obtain ⟨f1, hf1⟩ := h2
    have hf1' : DataW.trod enc Try.prog W 0 (fun _ => true) true f1 22 [.slice a2 len2 cap2] = some (d2, p2) := by simpa [Value.cells] using hf1
    obtain ⟨xs, hI, _⟩ := is_of_trod hf1'
    exact ⟨xs, hI⟩
  refine (chainBook_walk W hE hH hM hnz).mono fun e W' ⟨he, hf⟩ => ?_
  subst he
  have bel : Below W.heap.size W W' := hf.below (Nat.le_refl _) (fun _ h => h.elim)
  exact ⟨_, rfl, _, _, _, [], _, [], hW', trodAll_mk1 (shut_bool Try.underlying4 _), trodAll_mk3 (Below.trod argLaid (by kernel_rfl) (of_decide_eq_true (by kernel_rfl)) h0 bel lt0) (Below.trod argLaid (by kernel_rfl) (of_decide_eq_true (by kernel_rfl)) h1 bel lt1) (Below.trod argLaid (by kernel_rfl) (of_decide_eq_true (by kernel_rfl)) h2 bel lt2), rfl, bel.frame _, fun h => by cases h⟩

theorem chainBook_over : Rows.chainBookRow.holds Try.pinned (OpenSpec.ofChange Rows.chainBookSpec) :=
  OpenClaim.holds_of_wide 3 Try.f3 rfl rfl rfl rfl rfl rfl rfl ⟨rfl, rfl, rfl, rfl, rfl⟩ rfl rfl rfl rfl rfl (by kernel_rfl) Try.func3 (by kernel_rfl)
    (of_decide_eq_true (by kernel_rfl)) (by unfold Func.isWrapper; first | (rw [if_pos (by decide +kernel)]; kernel_rfl) | (rw [if_neg (by decide +kernel)]; exact ⟨rfl, rfl⟩))
    (fun os started H enc _ => chainBook_lifted os started H enc)

theorem chainBook_holds : Rows.ChainBookSaid := chainBook_over
#print axioms chainBook_holds
end Go.Proofs.Ytcmniejffpoinab
