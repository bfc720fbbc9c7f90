/- TableNames returns true: whatever memory it is called in; no conditions. -/
import Derived.Test.YtobigmcklecbnaaTTab4S
import Derived.Test.YtobigmcklecbnaaTTab4
import Derived.ProofKit
import Derived.OpenShut
import Derived.Below
namespace Go.Proofs.Ytobigmcklecbnaa
open Go.ChangeShapes Go.WideShapes Go.ChangeAt Go.RowKit

theorem namesOwn : ownKnob Try.prog.godebug = none := by kernel_rfl
theorem tabS_nil (W : World) (B : Nat) : (binOp .neq 22 (.pointer (some ⟨B, 0, none⟩)) (.pointer none)).run Try.prog W = .ok (.bool true) W := by kernel_rfl
theorem nhash_a : (hashL ⟨#[97]⟩ : Int) = 12638187200555641996 := by decide +kernel
theorem nhash_b : (hashL ⟨#[98]⟩ : Int) = 12638190499090526629 := by decide +kernel
theorem nhash_0 : (hashL ⟨#[]⟩ : Int) = 14695981039346656037 := by decide +kernel

set_option maxHeartbeats 800000 in
set_option maxRecDepth 100000 in
theorem names_walk (w : World) : Calls Try.prog 3 #[] w fun e w' => e = .returned (.bool true) ∧ Fr w w' (fun _ => False) := by
  have hbn := tabS_nil
  have HA := hid (fun W => hash_any ⟨#[97]⟩ W (by show 1 ≤ _; omega))
  rw [nhash_a] at HA
  have HB := hid (fun W => hash_any ⟨#[98]⟩ W (by show 1 ≤ _; omega))
  rw [nhash_b] at HB
  have H0 := hid (fun W => hash_any ⟨#[]⟩ W (by show 0 ≤ _; omega))
  rw [nhash_0] at H0
  have HM : Hid (min (9 : Int) ((newT (.string ⟨#[]⟩)).left : Int) = 0) := by show min (9 : Int) (0 : Int) = 0; decide
  have HL := hid (move_inv (.string ⟨#[]⟩) (new_inv (.string ⟨#[]⟩)).i0 9).2.2.1
  have HL0 : Hid ((moveT (.string ⟨#[]⟩) (newT (.string ⟨#[]⟩)) 9).left = 0) := by
    show _ = 0
    rw [HL.out]
    show 0 - _ = 0
    omega
  go_enter Try.func3, Try.ntmps3
  go_wp2_with fail
  refine (S.new_any _).mono ?_
  rintro e w1 ⟨rfl, hT1, hf1, hs1⟩
  have HT1 := hid hT1
  have HF1 := hid hf1
  clear hT1 hf1
  go_wp2_with fail
  refine (S.len_any _ HT1.out).mono ?_
  rintro e w2 ⟨rfl, hw2⟩
  have hw2 := hw2.symm
  subst hw2
  rw [show (newT (.string ⟨#[]⟩)).keys = 0 from rfl]
  go_wp2_with fail
  refine (S.slots_any _ HT1.out).mono ?_
  rintro e w2 ⟨rfl, hw2⟩
  have hw2 := hw2.symm
  subst hw2
  rw [show (newT (.string ⟨#[]⟩)).row.length = 8 from rfl]
  go_wp2_with fail
  refine (S.left_any _ HT1.out).mono ?_
  rintro e w3 ⟨rfl, hf3⟩
  rw [show (newT (.string ⟨#[]⟩)).left = 0 from rfl]
  have HT3 := hid (HT1.out.step hf3)
  have HF3 := hid (HF1.out.trans hf3)
  clear hf3
  go_wp2_with fail
  refine (S.move_any 9 _ HT3.out).mono ?_
  rintro e w4 ⟨rfl, _, hf4⟩
  rw [HL0.out]
  have HF4 := hid (HF3.out.trans2 hf4 (fun b hb e => by rcases e with e | e | e; omega; omega; cases e))
  clear hf4
  go_wp2_with fail
  refine (H0.out _).mono ?_
  rintro e w2 ⟨rfl, hw2⟩
  have hw2 := hw2.symm
  subst hw2
  go_wp2_with fail
  refine (HA.out _).mono ?_
  rintro e w2 ⟨rfl, hw2⟩
  have hw2 := hw2.symm
  subst hw2
  go_wp2_with fail
  refine (HB.out _).mono ?_
  rintro e w2 ⟨rfl, hw2⟩
  have hw2 := hw2.symm
  subst hw2
  go_wp2_with fail
  go_ret
  exact ⟨rfl, HF4.out⟩

set_option maxRecDepth 100000 in
theorem names_lifted (os : Os) (started : os.Started) (H : Type) (enc : TypeId × Value → H) :
    ReturnsInHanded {} Try.checked os 3 .any (Rows.tableNamesSpec.pre6 enc Try.prog Try.f3 Rows.tableNamesRow.domain false) (Rows.tableNamesSpec.post enc Try.prog Try.f3 false true false false) := by
  refine returnsInHanded_of_change (C := Try.checked) namesOwn started (by kernel_rfl) Try.func3
    (ChangeSpec.witness6 (enc := enc) (C := Try.checked) false ⟨#[], #[], []⟩ 8 (by kernel_rfl) (by kernel_rfl) (by kernel_rfl) (by kernel_rfl)) ?_
  intro W base args ds gs before hval0 hW hcnd _
  have hW' := hW
  obtain ⟨p, q, hA0, hV, rfl, hfz, hnd⟩ := hW
  have hA : DataW.TrodAll enc Try.prog W 0 (fun _ => true) true Try.f3.params.toList args.toList ds p := hA0
  rw [Try.params3] at hA
  obtain ⟨rfl, rfl, rfl⟩ := trodAll_none hA
  obtain ⟨rfl, rfl⟩ := trodVars_none hV
  refine (names_walk W).mono fun e W' ⟨he, hf⟩ => ?_
  subst he
  have bel : Below W.heap.size W W' := hf.below (Nat.le_refl _) (fun _ h => h.elim)
  exact ⟨_, rfl, _, _, _, [], [], [], hW', trodAll_mk1 (shut_bool Try.underlying4 _), trodAll_mk0, rfl, bel.frame _, fun h => by cases h⟩

theorem names_over : Rows.tableNamesRow.holds Try.pinned (OpenSpec.ofChange Rows.tableNamesSpec) :=
  OpenClaim.holds_of_wide 3 Try.f3 rfl rfl rfl rfl rfl rfl rfl ⟨rfl, rfl, rfl, rfl, rfl⟩ rfl rfl rfl rfl rfl (by kernel_rfl) Try.func3 (by kernel_rfl)
    (of_decide_eq_true (by kernel_rfl)) (by unfold Func.isWrapper; first | (rw [if_pos (by decide +kernel)]; kernel_rfl) | (rw [if_neg (by decide +kernel)]; exact ⟨rfl, rfl⟩))
    (fun os started H enc _ => names_lifted os started H enc)

theorem tableNames_holds : Rows.TableNamesSaid := names_over
#print axioms tableNames_holds
end Go.Proofs.Ytobigmcklecbnaa
