/- WirePieces returns true, and its arguments read afterwards as before, where the arguments together are of bulk at most the Rows text's number. -/
import Derived.Test.YtdhobmnljniccaaWalkPieces
namespace Go.Proofs.Ytdhobmnljniccaa
open Go.ChangeShapes Go.WideShapes Go.ChangeAt Go.RowKit

set_option maxRecDepth 100000 in
theorem pieces_lifted (os : Os) (started : os.Started) (H : Type) (enc : TypeId × Value → H) (F : Stop.Interp) :
    ReturnsInHanded {} Try.checked os 7 .any ((Rows.OpenSpec.upto Rows.wirePiecesSpec).pre6 enc Try.prog Try.f7 Rows.wirePiecesUptoRow.domain false) (((Rows.OpenSpec.upto Rows.wirePiecesSpec).at F).post enc Try.prog Try.f7 false true false false) := by
  refine returnsInHanded_of_cond (C := Try.checked) (s := Rows.OpenSpec.upto Rows.wirePiecesSpec) (k := Rows.uptoSmall) rfl piecesOwn started (by kernel_rfl) Try.func7
    (OpenSpec.witness (enc := enc) (C := Try.checked) (s := Rows.OpenSpec.upto Rows.wirePiecesSpec) (k := Rows.uptoSmall) rfl false ⟨#[], #[.int .i64 0, .slice none 0 0, .slice none 0 0], []⟩ 8 (by kernel_rfl) (by kernel_rfl) (by kernel_rfl)
      (x := ([.lit (.int .i64 0), .nil, .nil], [], [])) (by kernel_rfl) rfl (by kernel_rfl)) ?_
  intro W base args ds gs before hval0 hW _ hk _
  have hval : ∀ (j : Nat) t v, Try.f7.params[j]? = some t → args[j]? = some v → Value.okWide Try.prog W .any base t v := hval0
  have hW' := hW
  obtain ⟨p, q, hA0, hV, rfl, _, _⟩ := hW
  have hA : DataW.TrodAll enc Try.prog W 0 (fun _ => true) true Try.f7.params.toList args.toList ds p := hA0
  rw [Try.params7] at hA hval
  obtain ⟨v0, v1, v2, d0, d1, d2, p0, p1, p2, rfl, rfl, rfl, h0, h1, h2⟩ := trodAll_three hA
  obtain ⟨rfl, rfl⟩ := trodVars_none hV
  obtain ⟨x0, rfl, rfl, rfl, hx0⟩ := open_int Try.underlying3 (hval 0 3 v0 rfl rfl) h0
  obtain ⟨a1, len1, cap1, rfl⟩ := okWide_slice Try.underlying52 (hval 1 52 v1 rfl rfl)
  obtain ⟨a2, len2, cap2, rfl⟩ := okWide_slice Try.underlying53 (hval 2 53 v2 rfl rfl)
  have k1 := h1
  have k2 := h2
  have lt1 : ∀ x ∈ p1, x.block < W.heap.size := by obtain ⟨m, hm⟩ := k1; exact DataW.trod_lt m _ _ _ hm
  have lt2 : ∀ x ∈ p2, x.block < W.heap.size := by obtain ⟨m, hm⟩ := k2; exact DataW.trod_lt m _ _ _ hm
  obtain ⟨f1, hf1⟩ := h1
  obtain ⟨f2, hf2⟩ := h2
  have hf1' : DataW.trod enc Try.prog W 0 (fun _ => true) true f1 52 [.slice a1 len1 cap1] = some (d1, p1) := by simpa [Value.cells] using hf1
  have hf2' : DataW.trod enc Try.prog W 0 (fun _ => true) true f2 53 [.slice a2 len2 cap2] = some (d2, p2) := by simpa [Value.cells] using hf2
  have hbk := bulk_all hk
  have hb1 := Nat.le_trans (bulk_mem (show d1 ∈ _ by simp)) hbk
  have hb2 := Nat.le_trans (bulk_mem (show d2 ∈ _ by simp)) hbk
  obtain ⟨bs, hb8, hbs, hbl, hgl⟩ := bss_bulk hf1'
  obtain ⟨cs, hcs⟩ := css_bulk hf2' hb2
  clear hA0 hval0
  refine (pieces_walk _ _ _ bs cs W hbs hcs (by simp only at hbl; omega) hb8 (fun g hg => Nat.le_trans (hgl g hg) hb1)).mono fun e W' ⟨he, bel⟩ => ?_
  subst he
  exact ⟨_, rfl, _, _, _, [], _, [], hW', trodAll_mk1 (shut_bool Try.underlying4 _), trodAll_mk3 (shut_int Try.underlying3 hx0) (Below.trod piecesLaid (by kernel_rfl) (of_decide_eq_true (by kernel_rfl)) k1 bel lt1) (Below.trod piecesLaid (by kernel_rfl) (of_decide_eq_true (by kernel_rfl)) k2 bel lt2), rfl, bel.frame _, fun h => by cases h⟩

theorem pieces_over : Rows.wirePiecesUptoRow.holds Try.pinned (Rows.OpenSpec.upto Rows.wirePiecesSpec) :=
  OpenClaim.holds_of_cond 7 Try.f7 rfl rfl rfl rfl rfl rfl rfl ⟨rfl, rfl, rfl, rfl, rfl⟩ rfl rfl rfl rfl rfl (by kernel_rfl) Try.func7 (by kernel_rfl)
    (of_decide_eq_true (by kernel_rfl)) (by unfold Func.isWrapper; first | (rw [if_pos (by decide +kernel)]; kernel_rfl) | (rw [if_neg (by decide +kernel)]; exact ⟨rfl, rfl⟩))
    (fun os started H enc _ F => pieces_lifted os started H enc F)

theorem wirePieces_holds : Rows.WirePiecesUptoSaid := pieces_over
#print axioms wirePieces_holds
end Go.Proofs.Ytdhobmnljniccaa
