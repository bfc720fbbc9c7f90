import Derived.Test.YtilgkfpicdmkkaaMCell
import Derived.Deep.DeepCutAuto
/- The document's Compare: a walk. -/
namespace Go.Proofs.Ytilgkfpicdmkkaa.M
open Go.RowKit

theorem sign_any (b : Bool) (w : World) : Calls Try.prog 41 #[.bool b] w fun e w' => e = .returned (.int .i64 (if b then -1 else 1)) ∧ w' = w := by
  cases b with
  | true =>
    go_enter Try.func41, Try.ntmps41
    go_wp2_with fail
    go_ret
    exact ⟨rfl, rfl⟩
  | false =>
    go_enter Try.func41, Try.ntmps41
    go_wp2_with fail
    go_ret
    exact ⟨rfl, rfl⟩
theorem less_nums8 (a b : ByteArray) : Op.bytesLess a.toList b.toList = decide (cb (nums8 a) (nums8 b) < 0) := by
  rw [ByteArray.toList_eq, ByteArray.toList_eq, less_cb]
  rfl
theorem cmpI_sign {a b : Int} (h : a ≠ b) : cmpI a b = if decide (a < b) = true then -1 else 1 := by
  unfold cmpI
  by_cases h1 : a < b
  · simp [h1]
  · have h2 : b < a := by omega
    simp [h1, h2]
theorem cb_sign {a b : List Nat} (h : a ≠ b) : cb a b = if decide (cb a b < 0) = true then -1 else 1 := by
  rcases cb_vals a b with e | e | e
  · simp [e]
  · exact absurd (cb_zero _ _ e) h
  · simp [e]

set_option maxHeartbeats 1000000 in
set_option maxRecDepth 100000 in
theorem rcompare_any (a b : Cl) (w : World) : Calls Try.prog 24 #[vC a, vC b] w fun e w' => e = .returned (.int .i64 (cmpC a b)) ∧ Fr w w' (fun _ => False) := by
  have HD : Hid (cmpC a b = if cmpI a.v b.v ≠ 0 then cmpI a.v b.v else if cb (nums8 a.k) (nums8 b.k) ≠ 0 then cb (nums8 a.k) (nums8 b.k) else cmpI a.s b.s) := rfl
  have hl := less_nums8 a.k b.k
  unfold vC
  by_cases h1 : a.v = b.v
  · by_cases h2 : a.k = b.k
    · have e2 : a.k.toList = b.k.toList := by rw [h2]
      have hd := HD.out
      rw [if_neg (by rw [cmpI_zero.2 h1]; decide), if_neg (by rw [h2, cb_self]; decide)] at hd
      rw [hd]
      clear hd HD hl h2
      by_cases h3 : a.s = b.s
      · rw [cmpI_zero.2 h3]
        go_enter Try.func24, Try.ntmps24
        go_wp2_with fail
        go_ret
        exact ⟨rfl, by repeat (first | exact Fr.refl _ _ | apply Fr.alloc | apply Fr.drew)⟩
      · rw [cmpI_sign h3]
        have t3 : (a.s != b.s) = true := by simpa using h3
        by_cases h4 : a.s < b.s
        · rw [if_pos (decide_eq_true h4)]
          have HSg := hid (fun W => sign_any true W)
          rw [if_pos rfl] at HSg
          go_enter Try.func24, Try.ntmps24
          go_wp2_with (go_at_call 41; refine (HSg.out _).mono ?_; rintro e w1 ⟨rfl, rfl⟩)
          go_ret
          exact ⟨rfl, by repeat (first | exact Fr.refl _ _ | apply Fr.alloc | apply Fr.drew)⟩
        · rw [if_neg (by simpa using h4)]
          have HSg := hid (fun W => sign_any false W)
          rw [if_neg (by decide)] at HSg
          go_enter Try.func24, Try.ntmps24
          go_wp2_with (go_at_call 41; refine (HSg.out _).mono ?_; rintro e w1 ⟨rfl, rfl⟩)
          go_ret
          exact ⟨rfl, by repeat (first | exact Fr.refl _ _ | apply Fr.alloc | apply Fr.drew)⟩
    · have e2 : ¬ a.k.toList = b.k.toList := by
        intro e3
        rw [ByteArray.toList_eq, ByteArray.toList_eq] at e3
        exact h2 (ByteArray.ext (Array.toList_inj.1 e3))
      have hne : nums8 a.k ≠ nums8 b.k := fun e => h2 (nums8_inj e)
      have hd := HD.out
      rw [if_neg (by rw [cmpI_zero.2 h1]; decide), if_pos (fun e => hne (cb_zero _ _ e)), cb_sign hne] at hd
      rw [hd]
      have t2 : (a.k.toList == b.k.toList) = false := by simpa using e2
      clear hd HD h2 hne
      generalize decide (cb (nums8 a.k) (nums8 b.k) < 0) = q at *
      cases q with
      | true =>
        rw [if_pos rfl]
        have HSg := hid (fun W => sign_any true W)
        rw [if_pos rfl] at HSg
        go_enter Try.func24, Try.ntmps24
        go_wp2_with (go_at_call 41; refine (HSg.out _).mono ?_; rintro e w1 ⟨rfl, rfl⟩)
        go_ret
        exact ⟨rfl, by repeat (first | exact Fr.refl _ _ | apply Fr.alloc | apply Fr.drew)⟩
      | false =>
        rw [if_neg (by decide)]
        have HSg := hid (fun W => sign_any false W)
        rw [if_neg (by decide)] at HSg
        go_enter Try.func24, Try.ntmps24
        go_wp2_with (go_at_call 41; refine (HSg.out _).mono ?_; rintro e w1 ⟨rfl, rfl⟩)
        go_ret
        exact ⟨rfl, by repeat (first | exact Fr.refl _ _ | apply Fr.alloc | apply Fr.drew)⟩
  · have hd := HD.out
    rw [if_pos (fun e => h1 (cmpI_zero.1 e)), cmpI_sign h1] at hd
    rw [hd]
    have t1 : (a.v != b.v) = true := by simpa using h1
    clear hd HD hl
    by_cases h4 : a.v < b.v
    · rw [if_pos (decide_eq_true h4)]
      have HSg := hid (fun W => sign_any true W)
      rw [if_pos rfl] at HSg
      go_enter Try.func24, Try.ntmps24
      go_wp2_with (go_at_call 41; refine (HSg.out _).mono ?_; rintro e w1 ⟨rfl, rfl⟩)
      go_ret
      exact ⟨rfl, by repeat (first | exact Fr.refl _ _ | apply Fr.alloc | apply Fr.drew)⟩
    · rw [if_neg (by simpa using h4)]
      have HSg := hid (fun W => sign_any false W)
      rw [if_neg (by decide)] at HSg
      go_enter Try.func24, Try.ntmps24
      go_wp2_with (go_at_call 41; refine (HSg.out _).mono ?_; rintro e w1 ⟨rfl, rfl⟩)
      go_ret
      exact ⟨rfl, by repeat (first | exact Fr.refl _ _ | apply Fr.alloc | apply Fr.drew)⟩
end Go.Proofs.Ytilgkfpicdmkkaa.M
