/- AggExact returns true for every two int32 and every two int64; no conditions. -/
import Derived.Test.YtmfkccdlblebjabAKnown
import Derived.Test.YtmfkccdlblebjabASub
import Derived.ProofKit
import Derived.OpenShut
import Derived.Below
import Derived.Carry
namespace Go.Proofs.Ytmfkccdlblebjab
open Go.ChangeShapes Go.WideShapes Go.ChangeAt Go.RowKit

theorem exactOwn : ownKnob Try.prog.godebug = none := by kernel_rfl

theorem mul32 {a b : Int} (ha : -2147483648 ≤ a ∧ a ≤ 2147483647) (hb : -2147483648 ≤ b ∧ b ≤ 2147483647) : fits (a * b) := by
  have h : (a * b).natAbs ≤ 4611686018427387904 := by
    rw [Int.natAbs_mul]
    have := Nat.mul_le_mul (show a.natAbs ≤ 2147483648 by omega) (show b.natAbs ≤ 2147483648 by omega)
    omega
  unfold fits
  omega

set_option maxHeartbeats 1000000 in
theorem exact_walk (a b x y : Int) (ha : -2147483648 ≤ a ∧ a ≤ 2147483647) (hb : -2147483648 ≤ b ∧ b ≤ 2147483647) (hx : fits x) (hy : fits y) (w : World) :
    Calls Try.prog 4 #[.int .i32 a, .int .i32 b, .int .i64 x, .int .i64 y] w fun e w' => e = .returned (.bool true) ∧ Fr w w' (fun _ => False) := by
  have f1 : fits (a + b) := by unfold fits; omega
  have f2 : fits (a - b) := by unfold fits; omega
  have f3 : fits (a * b) := mul32 ha hb
  have fa : fits a := by unfold fits; omega
  have fb : fits b := by unfold fits; omega
  have e3 := wrap64_fits f3
  obtain ⟨ha1, ha2⟩ := ha
  obtain ⟨hb1, hb2⟩ := hb
  go_enter Try.func4, Try.ntmps4
  go_wp2_with fail
  refine (known_any _).mono ?_
  rintro e w1 ⟨rfl, hf1⟩
  have HF1 := hid hf1
  clear hf1
  go_wp2_with fail
  refine (add_ok a b f1 _).mono ?_
  rintro e w2 ⟨rfl, rfl⟩
  go_wp2_with fail
  refine (sub_ok a b f2 _).mono ?_
  rintro e w2 ⟨rfl, rfl⟩
  go_wp2_with fail
  refine (mul_ok a b fa fb f3 _).mono ?_
  rintro e w2 ⟨rfl, hf2⟩
  have HF2 := hid (HF1.out.trans hf2)
  clear hf2
  go_wp2_with fail
  by_cases h : fits (x + y)
  · refine (add_ok x y h _).mono ?_
    rintro e w2 ⟨rfl, rfl⟩
    have e4 : x + y - y = x := by omega
    go_wp2_with fail
    refine (sub_ok (x + y) y (by rw [e4]; exact hx) _).mono ?_
    rintro e w2 ⟨rfl, rfl⟩
    rw [e4]
    go_wp2_with fail
    go_ret
    exact ⟨rfl, HF2.out⟩
  · refine (add_over x y hx hy h _).mono ?_
    rintro e w2 ⟨rfl, rfl⟩
    unfold overV overB
    unfold fits at h hx hy
    by_cases hp : 0 < x
    · have hq : 0 < y := by omega
      have n1 : (x != 0) = true := by simp; omega
      have n2 : (y != 0) = true := by simp; omega
      clear h hx hy
      go_wp2_with fail
      go_ret
      exact ⟨rfl, HF2.out.alloc _⟩
    · have hq : ¬ 0 < y := by omega
      have n1 : (x != 0) = true := by simp; omega
      have n2 : (y != 0) = true := by simp; omega
      clear h hx hy
      go_wp2_with fail
      go_ret
      exact ⟨rfl, HF2.out.alloc _⟩

set_option maxRecDepth 100000 in
theorem exact_lifted (os : Os) (started : os.Started) (H : Type) (enc : TypeId × Value → H) :
    ReturnsInHanded {} Try.checked os 4 .any (Rows.aggExactSpec.pre6 enc Try.prog Try.f4 Rows.aggExactRow.domain false) (Rows.aggExactSpec.post enc Try.prog Try.f4 false true false false) := by
  refine returnsInHanded_of_change (C := Try.checked) exactOwn started (by kernel_rfl) Try.func4
    (ChangeSpec.witness6 (enc := enc) (C := Try.checked) false ⟨#[], #[.int .i32 0, .int .i32 0, .int .i64 0, .int .i64 0], []⟩ 8 (by kernel_rfl) (by kernel_rfl) (by kernel_rfl) (by kernel_rfl)) ?_
  intro W base args ds gs before hval0 hW hcnd _
  have hval : ∀ (j : Nat) t v, Try.f4.params[j]? = some t → args[j]? = some v → Value.okWide Try.prog W .any base t v := hval0
  have hW' := hW
  obtain ⟨p, q, hA0, hV, rfl, hfz, hnd⟩ := hW
  have hA : DataW.TrodAll enc Try.prog W 0 (fun _ => true) true Try.f4.params.toList args.toList ds p := hA0
  rw [Try.params4] at hA hval
  obtain ⟨v0, v1, v2, v3, d0, d1, d2, d3, p0, p1, p2, p3, rfl, rfl, rfl, h0, h1, h2, h3⟩ := trodAll_four hA
  obtain ⟨rfl, rfl⟩ := trodVars_none hV
  obtain ⟨x0, rfl, rfl, rfl, w0⟩ := open_int Try.underlying21 (hval 0 21 v0 rfl rfl) h0
  obtain ⟨x1, rfl, rfl, rfl, w1⟩ := open_int Try.underlying21 (hval 1 21 v1 rfl rfl) h1
  obtain ⟨x2, rfl, rfl, rfl, w2⟩ := open_int Try.underlying2 (hval 2 2 v2 rfl rfl) h2
  obtain ⟨x3, rfl, rfl, rfl, w3⟩ := open_int Try.underlying2 (hval 3 2 v3 rfl rfl) h3
  refine (exact_walk x0 x1 x2 x3 (bounds_i32 w0) (bounds_i32 w1) (bounds_i64 w2) (bounds_i64 w3) W).mono fun e W' ⟨he, hf⟩ => ?_
  subst he
  have bel : Below W.heap.size W W' := hf.below (Nat.le_refl _) (fun _ h => h.elim)
  exact ⟨_, rfl, _, _, _, [], [], [], hW', trodAll_mk1 (shut_bool Try.underlying4 _), trodAll_mk4 (shut_int Try.underlying21 w0) (shut_int Try.underlying21 w1) (shut_int Try.underlying2 w2) (shut_int Try.underlying2 w3), rfl, bel.frame _, fun h => by cases h⟩

theorem exact_over : Rows.aggExactRow.holds Try.pinned (OpenSpec.ofChange Rows.aggExactSpec) :=
  OpenClaim.holds_of_wide 4 Try.f4 rfl rfl rfl rfl rfl rfl rfl ⟨rfl, rfl, rfl, rfl, rfl⟩ rfl rfl rfl rfl rfl (by kernel_rfl) Try.func4 (by kernel_rfl)
    (of_decide_eq_true (by kernel_rfl)) (by unfold Func.isWrapper; first | (rw [if_pos (by decide +kernel)]; kernel_rfl) | (rw [if_neg (by decide +kernel)]; exact ⟨rfl, rfl⟩))
    (fun os started H enc _ => exact_lifted os started H enc)

theorem aggExact_holds : Rows.AggExactSaid := exact_over
#print axioms aggExact_holds
end Go.Proofs.Ytmfkccdlblebjab
