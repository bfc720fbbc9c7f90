/- TableHash returns true for every text; no conditions. -/
import Derived.Test.YtobigmcklecbnaaTKnown
import Derived.ProofKit
import Derived.OpenShut
import Derived.ChangeMaps5
import Derived.Below
namespace Go.Proofs.Ytobigmcklecbnaa
open Go.ChangeShapes Go.WideShapes Go.ChangeAt Go.RowKit

theorem hashOwn : ownKnob Try.prog.godebug = none := by kernel_rfl

set_option maxRecDepth 100000 in
theorem refHash_any (k : ByteArray) (w : World) (hk : k.size ≤ 9223372036854775807) : Calls Try.prog 16 #[.string k] w fun e w' => e = .returned (.int .u64 (hashL k : Int)) ∧ w' = w := by
  go_enter Try.func16, Try.ntmps16
  go_wp2_with fail
  go_loopg [3, 4] k.size (fun g s3 s4 wx => ∃ i : Nat, s3 = .int .u64 (hashN k i : Int) ∧ s4 = .int .i64 (i : Int) ∧ i + g = k.size ∧ wx = w)
  case atStart => exact ⟨0, rfl, rfl, by omega, rfl⟩
  case round =>
    obtain ⟨i, rfl, rfl, hg, rfl⟩ := hrel
    cases gk with
    | zero =>
      have t1 : ¬ (i : Int) < (k.size : Int) := by omega
      have HE := hid (show i = k.size by omega)
      clear hg
      go_wp2_with fail
      go_ret
      exact ⟨by rw [HE.out]; rfl, rfl⟩
    | succ g =>
      have t1 : (i : Int) < (k.size : Int) := by omega
      have t0 : (0 : Int) ≤ (i : Int) := by omega
      have HG := hid hg
      have hi : i < k.size := by omega
      have HI := hid hi
      clear hg
      go_wp2_with fail
      go_roundg g
      case measure => omega
      case rel =>
        refine ⟨i + 1, ?_, by go_num, by have := HG.out; omega, rfl⟩
        rw [← hashN_step k i]
        have e1 : (k[i]'HI.out).toNat = (k.data.getD i 0).toNat := by
          have h2 : i < k.data.size := HI.out
          simp only [Array.getD_eq_getD_getElem?, Array.getElem?_eq_getElem h2]
          rfl
        have e2 : ((k.data.getD i 0).toNat : Int) < 256 := by have := UInt8.toNat_lt (k.data.getD i 0); omega
        rw [e1, show IntKind.u64.wrap (((k.data.getD i 0).toNat : Nat) : Int) = (((k.data.getD i 0).toNat : Nat) : Int) from by rw [IntKind.wrap_u64]; omega]

set_option maxHeartbeats 800000 in
set_option maxRecDepth 100000 in
theorem hash_walk (k : ByteArray) (w : World) (hk : k.size ≤ 9223372036854775807) : Calls Try.prog 4 #[.string k] w fun e w' => e = .returned (.bool true) ∧ Fr w w' (fun _ => False) := by
  have H1 := hid (fun W => hash_any k W hk)
  have H2 := hid (fun W => refHash_any k W hk)
  generalize hashL k = h at *
  by_cases hb : (1048576 : Int) < (k.size : Int)
  · go_enter Try.func4, Try.ntmps4
    go_wp2_with fail
    refine (known_any _).mono ?_
    rintro e w1 ⟨rfl, hf1⟩
    have HF1 := hid hf1
    clear hf1
    go_wp2_with fail
    go_ret
    exact ⟨rfl, HF1.out⟩
  · go_enter Try.func4, Try.ntmps4
    go_wp2_with fail
    refine (known_any _).mono ?_
    rintro e w1 ⟨rfl, hf1⟩
    have HF1 := hid hf1
    clear hf1
    go_wp2_with fail
    refine (H1.out _).mono ?_
    rintro e w2 ⟨rfl, hw2⟩
    have hw2 := hw2.symm
    subst hw2
    go_wp2_with fail
    refine (H2.out _).mono ?_
    rintro e w2 ⟨rfl, hw2⟩
    have hw2 := hw2.symm
    subst hw2
    go_wp2_with fail
    go_ret
    exact ⟨by simp, HF1.out⟩

set_option maxRecDepth 100000 in
theorem hash_lifted (os : Os) (started : os.Started) (H : Type) (enc : TypeId × Value → H) :
    ReturnsInHanded {} Try.checked os 4 .any (Rows.tableHashSpec.pre6 enc Try.prog Try.f4 Rows.tableHashRow.domain false) (Rows.tableHashSpec.post enc Try.prog Try.f4 false true false false) := by
  refine returnsInHanded_of_change (C := Try.checked) hashOwn started (by kernel_rfl) Try.func4
    (ChangeSpec.witness6 (enc := enc) (C := Try.checked) false ⟨#[], #[.string ⟨#[]⟩], []⟩ 8 (by kernel_rfl) (by kernel_rfl) (by kernel_rfl) (by kernel_rfl)) ?_
  intro W base args ds gs before hval0 hW hcnd _
  have hval : ∀ (j : Nat) t v, Try.f4.params[j]? = some t → args[j]? = some v → Value.okWide Try.prog W .any base t v := hval0
  have hW' := hW
  obtain ⟨p, q, hA0, hV, rfl, hfz, hnd⟩ := hW
  have hA : DataW.TrodAll enc Try.prog W 0 (fun _ => true) true Try.f4.params.toList args.toList ds p := hA0
  rw [Try.params4] at hA hval
  obtain ⟨v0, d0, rfl, rfl, h0⟩ := trodAll_one hA
  obtain ⟨rfl, rfl⟩ := trodVars_none hV
  obtain ⟨s, rfl, rfl, rfl, hs⟩ := Go.ChangeMaps.open_string Try.underlying9 (hval 0 9 v0 rfl rfl) h0
  refine (hash_walk s W (by unfold maxLen at hs; omega)).mono fun e W' ⟨he, hf⟩ => ?_
  subst he
  have bel : Below W.heap.size W W' := hf.below (Nat.le_refl _) (fun _ h => h.elim)
  exact ⟨_, rfl, _, _, _, [], [], [], hW', trodAll_mk1 (shut_bool Try.underlying4 _), trodAll_mk1 (Go.ChangeMaps.shut_string Try.underlying9 hs), rfl, bel.frame _, fun h => by cases h⟩

theorem hash_over : Rows.tableHashRow.holds Try.pinned (OpenSpec.ofChange Rows.tableHashSpec) :=
  OpenClaim.holds_of_wide 4 Try.f4 rfl rfl rfl rfl rfl rfl rfl ⟨rfl, rfl, rfl, rfl, rfl⟩ rfl rfl rfl rfl rfl (by kernel_rfl) Try.func4 (by kernel_rfl)
    (of_decide_eq_true (by kernel_rfl)) (by unfold Func.isWrapper; first | (rw [if_pos (by decide +kernel)]; kernel_rfl) | (rw [if_neg (by decide +kernel)]; exact ⟨rfl, rfl⟩))
    (fun os started H enc _ => hash_lifted os started H enc)

theorem tableHash_holds : Rows.TableHashSaid := hash_over
#print axioms tableHash_holds
end Go.Proofs.Ytobigmcklecbnaa
