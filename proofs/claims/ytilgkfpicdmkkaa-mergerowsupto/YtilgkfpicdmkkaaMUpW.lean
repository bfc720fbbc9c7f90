import Derived.Test.YtilgkfpicdmkkaaMLessW
/- container/heap over merge's rests: up, down, Push, Fix, Pop: walks (lists of api.Row). -/
namespace Go.Proofs.Ytilgkfpicdmkkaa.M.W
open Go.RowKit
variable {S : Rt → Value}

theorem Try.mLessW (v : Value) (w : World) : (Go.method 231 62 v "Less").run Try.prog w = .ok (73, v) w := by kernel_rfl
theorem Try.mSwapW (v : Value) (w : World) : (Go.method 231 62 v "Swap").run Try.prog w = .ok (76, v) w := by kernel_rfl
theorem Try.mLenW (v : Value) (w : World) : (Go.method 231 62 v "Len").run Try.prog w = .ok (28, v) w := by kernel_rfl
theorem Try.mPushW (v : Value) (w : World) : (Go.method 231 62 v "Push").run Try.prog w = .ok (75, v) w := by kernel_rfl
theorem Try.mPopW (v : Value) (w : World) : (Go.method 231 62 v "Pop").run Try.prog w = .ok (74, v) w := by kernel_rfl

/-- The rests' receiver as an interface. -/
abbrev hv (B : Nat) : Value := .iface 62 (.pointer (some ⟨B, 0, none⟩))
theorem par_tdiv (j : Nat) : Int.tdiv ((j : Int) - 1) 2 = ((par j : Nat) : Int) := by
  unfold par
  cases j with
  | zero => rfl
  | succ j =>
    have : (((j + 1 : Nat) : Int) - 1) = (j : Int) := by omega
    rw [this, Nat.add_sub_cancel]
    rfl
theorem mem_swap {hs : List Rt} {i j : Nat} (hi : i < hs.length) (hj : j < hs.length) {P : Rt → Prop} (h : ∀ r ∈ hs, P r) : ∀ r ∈ swap hs i j, P r := fun r hr => h r ((swap_perm hs i j hi hj).mem_iff.1 hr)

set_option maxHeartbeats 1000000 in
set_option maxRecDepth 100000 in
theorem up_any {w0 wk : World} {B : Nat} {v : Value} {hs : List Rt} (j : Nat) (hj : j < hs.length) (w : World) (h : Rs S fv w0 wk w B v hs) (hH : ∀ r ∈ hs, Hd S w0 r) (hS : ∀ r, ∃ a n c, S r = .slice a n c) :
    Calls Try.prog 48 #[hv B, .int .i64 (j : Int)] w fun e w' => e = .returned (.tuple #[]) ∧ Rs S fv w0 wk w' B v (up (ltR cmE) hs j) := by
  have hlen := h.len
  have m1 := Try.mLessW
  have m2 := Try.mSwapW
  have HR := hid h
  have HH := hid hH
  have HS := hid hS
  clear h hH hS
  go_enter Try.func48, Try.ntmps48
  go_wp2_with fail
  go_loopg [1] j (fun g s1 wx => ∃ (k : Nat) (xs : List Rt), s1 = .int .i64 (k : Int) ∧ k ≤ g ∧ k < hs.length ∧ xs.length = hs.length ∧ Hid (Rs S fv w0 wk wx B v xs) ∧ Hid (∀ r ∈ xs, Hd S w0 r) ∧ Hid (up (ltR cmE) xs k = up (ltR cmE) hs j))
  case atStart => exact ⟨j, hs, rfl, Nat.le_refl _, hj, rfl, HR, HH, rfl⟩
  case round =>
    obtain ⟨k, xs, rfl, hk, hkl, hxl, HX, HM, HU⟩ := hrel
    have hq := par_tdiv k
    have hpk : par k ≤ k := by unfold par; omega
    have HL := hid (fun W (hf : Fr wr W (fun _ => False)) => less_any k (par k) (by omega) (by omega) W (HX.out.step hf) ((HM.out _ (at_mem (by omega))).fr (HX.out.step hf).fr) ((HM.out _ (at_mem (by omega))).fr (HX.out.step hf).fr))
    have t5 : -1 ≤ (k : Int) - 1 := by omega
    have t6 : (k : Int) - 1 ≤ 1000000 := by omega
    by_cases hp : par k = k
    · have t7 : ((par k : Nat) : Int) = (k : Int) := by omega
      have HE := hid hp
      rw [t7] at hq
      clear hp HL t7
      go_wp2_with fail
      go_end0
      refine ⟨rfl, ?_⟩
      have hu := HU.out
      rw [up, dif_pos (Or.inl HE.out)] at hu
      rw [← hu]
      exact HX.out
    · have t7 : (((par k : Nat) : Int) == (k : Int)) = false := by simp; omega
      have HP := hid hp
      have hlt : par k < k := by omega
      generalize hpp : par k = p at *
      have HPP := hid hpp
      clear hpp
      cases hlr : ltR cmE (at' xs k) (at' xs p) with
      | false =>
        rw [hlr] at HL
        have HLR := hid hlr
        clear hlr
        go_wp2_with fail
        refine (HL.out _ (Fr.refl _ _)).mono ?_
        rintro e w1 ⟨rfl, hf1⟩
        have HF := hid hf1
        clear hf1
        go_wp2_with fail
        go_end0
        refine ⟨rfl, ?_⟩
        have hu := HU.out
        rw [up, dif_pos (Or.inr (by rw [HPP.out]; exact HLR.out))] at hu
        rw [← hu]
        exact HX.out.step HF.out
      | true =>
        rw [hlr] at HL
        have HLR := hid hlr
        clear hlr
        have HSw := hid (fun W (hf : Fr wr W (fun _ => False)) => swap_any p k (by omega) (by omega) HS.out W (HX.out.step hf))
        go_wp2_with fail
        refine (HL.out _ (Fr.refl _ _)).mono ?_
        rintro e w1 ⟨rfl, hf1⟩
        have HF := hid hf1
        clear hf1
        go_wp2_with fail
        refine (HSw.out _ HF.out).mono ?_
        rintro e w2 ⟨rfl, hx2⟩
        have HX2 := hid hx2
        clear hx2
        go_wp2_with fail
        go_roundg (gk - 1)
        case measure => omega
        case rel =>
          refine ⟨p, swap xs p k, rfl, by omega, by omega, by rw [swap_len]; exact hxl, HX2, mem_swap (by omega) (by omega) HM.out, ?_⟩
          have hu := HU.out
          rw [up, dif_neg (by rw [HPP.out]; rintro (h | h); exact HP.out h; rw [HLR.out] at h; cases h), HPP.out] at hu
          exact hu
end Go.Proofs.Ytilgkfpicdmkkaa.M.W
