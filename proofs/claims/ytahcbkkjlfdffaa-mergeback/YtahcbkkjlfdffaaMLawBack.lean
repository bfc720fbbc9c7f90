/- MergeBack returns true for every text; no conditions. -/
import Derived.Test.YtahcbkkjlfdffaaMKnown
import Derived.ProofKit
import Derived.OpenShut
import Derived.ChangeMaps5
import Derived.SizedLaws
import Derived.Below
namespace Go.Proofs.Ytahcbkkjlfdffaa.M
open Go.ChangeShapes Go.WideShapes Go.ChangeAt Go.RowKit

theorem back_cell (s : ByteArray) (h : (cell (nums8 s)).1 = 0) : key (cell (nums8 s)).2 = s ∧ mE (cell (nums8 s)).2 = 0 ∧ (cell (nums8 s)).2.k.size ≤ 32 := by
  obtain ⟨h1, h2⟩ := txt_cell (nums8_byte s) h
  refine ⟨?_, h1, (mE_zero h1).2.1⟩
  unfold key
  rw [if_pos h1, h2, str8_nums8]
theorem back_none (s : ByteArray) (h : (cell (nums8 s)).1 ≠ 0) : (cell (nums8 s)).2 = c0 := by
  unfold cell at h ⊢
  split
  · rename_i h0
    rw [if_pos h0] at h
    exact absurd h0 h
  · rfl

set_option maxHeartbeats 1000000 in
set_option maxRecDepth 100000 in
theorem back_walk (s : ByteArray) (w : World) (hs : s.size ≤ 140737488355327) : Calls Try.prog 8 #[.string s] w fun e w' => e = .returned (.bool true) ∧ Fr w w' (fun _ => False) := by
  have HC := hid (fun W => cell_any s W hs)
  by_cases h0 : (cell (nums8 s)).1 = 0
  · obtain ⟨k1, k2, k3⟩ := back_cell s h0
    have HK := hid (fun W => key_any (cell (nums8 s)).2 W (by omega))
    rw [k1, k2] at HK
    rw [h0] at HC
    generalize (cell (nums8 s)).2 = c at *
    obtain ⟨v, k, st⟩ := c
    unfold vC at HC HK
    dsimp only at *
    clear h0 k1 k2 k3
    go_enter Try.func8, Try.ntmps8
    go_wp2_with fail
    refine (known_any _).mono ?_
    rintro e w1 ⟨rfl, hf1⟩
    have HF1 := hid hf1
    clear hf1
    go_wp2_with fail
    refine (HC.out _).mono ?_
    rintro e w2 ⟨rfl, hf2⟩
    have HF2 := hid (HF1.out.trans hf2)
    clear hf2 HF1
    go_wp2_with fail
    refine (HK.out _).mono ?_
    rintro e w3 ⟨rfl, hf3⟩
    have HF3 := hid ((HF2.out.alloc _).trans hf3)
    clear hf3 HF2
    go_wp2_with fail
    go_ret
    exact ⟨by simp, HF3.out⟩
  · have hc0 := back_none s h0
    rw [hc0] at HC
    rw [vc0] at HC
    generalize (cell (nums8 s)).1 = m at *
    have t1 : (m != 0) = true := by simpa using h0
    clear hc0
    go_enter Try.func8, Try.ntmps8
    go_wp2_with fail
    refine (known_any _).mono ?_
    rintro e w1 ⟨rfl, hf1⟩
    have HF1 := hid hf1
    clear hf1
    go_wp2_with fail
    refine (HC.out _).mono ?_
    rintro e w2 ⟨rfl, hf2⟩
    have HF2 := hid (HF1.out.trans hf2)
    clear hf2 HF1
    go_wp2_with fail
    go_ret
    exact ⟨rfl, HF2.out.alloc _⟩

theorem lawOwn : ownKnob Try.prog.godebug = none := by kernel_rfl
set_option maxRecDepth 100000 in
theorem back_lifted (os : Os) (started : os.Started) (H : Type) (enc : TypeId × Value → H) :
    ReturnsInHanded {} Try.checked os 8 .any (Rows.mergeBackSpec.pre6 enc Try.prog Try.f8 Rows.mergeBackRow.domain false) (Rows.mergeBackSpec.post enc Try.prog Try.f8 false true false false) := by
  refine returnsInHanded_of_change_sized (C := Try.checked) lawOwn started (by kernel_rfl) Try.func8
    (ChangeSpec.witness6 (enc := enc) (C := Try.checked) false ⟨#[], #[.string ⟨#[]⟩], []⟩ 8 (by kernel_rfl) (by kernel_rfl) (by kernel_rfl) (by kernel_rfl)) ?_
  intro W base args ds gs before hval0 hW _ hsz0 _
  have hsz : (DataW.weightsEach Try.prog (Try.f8.params.toList ++ Rows.mergeBackSpec.plain.varTypes Try.prog) (ds ++ gs)).all (· ≤ reachBytes) = true := hsz0
  clear hsz0
  have hval : ∀ (j : Nat) t v, Try.f8.params[j]? = some t → args[j]? = some v → Value.okWide Try.prog W .any base t v := hval0
  have hW' := hW
  obtain ⟨p, q, hA0, hV, rfl, hfz, hnd⟩ := hW
  have hA : DataW.TrodAll enc Try.prog W 0 (fun _ => true) true Try.f8.params.toList args.toList ds p := hA0
  rw [Try.params8] at hA hval hsz
  obtain ⟨v0, d0, rfl, rfl, h0⟩ := trodAll_one hA
  obtain ⟨rfl, rfl⟩ := trodVars_none hV
  obtain ⟨s, rfl, rfl, rfl, hs⟩ := Go.ChangeMaps.open_string Try.underlying9 (hval 0 9 v0 rfl rfl) h0
  have hl := sized_string hsz (j := 0) rfl rfl
  refine (back_walk s W ?_).mono fun e W' ⟨he, hf⟩ => ?_
  · unfold reachBytes at hl
    simp at hl
    omega
  subst he
  have bel : Below W.heap.size W W' := hf.below (Nat.le_refl _) (fun _ h => h.elim)
  exact ⟨_, rfl, _, _, _, [], [], [], hW', trodAll_mk1 (shut_bool Try.underlying4 _), trodAll_mk1 (Go.ChangeMaps.shut_string Try.underlying9 hs), rfl, bel.frame _, fun h => by cases h⟩

theorem back_over : Rows.mergeBackRow.holds Try.pinned (OpenSpec.ofChange Rows.mergeBackSpec) :=
  OpenClaim.holds_of_wide 8 Try.f8 rfl rfl rfl rfl rfl rfl rfl ⟨rfl, rfl, rfl, rfl, rfl⟩ rfl rfl rfl rfl rfl (by kernel_rfl) Try.func8 (by kernel_rfl)
    (of_decide_eq_true (by kernel_rfl)) (by unfold Func.isWrapper; first | (rw [if_pos (by decide +kernel)]; kernel_rfl) | (rw [if_neg (by decide +kernel)]; exact ⟨rfl, rfl⟩))
    (fun os started H enc _ => back_lifted os started H enc)
end Go.Proofs.Ytahcbkkjlfdffaa.M
namespace Go.Proofs.Ytahcbkkjlfdffaa
theorem mergeBack_holds : Rows.MergeBackSaid := M.back_over
#print axioms mergeBack_holds
end Go.Proofs.Ytahcbkkjlfdffaa
