/- The document's numbers of 128 bits (spateref3: size, times, one, above, Plus, Less): walks. -/
import Derived.Test.YtbhhpkbiflolfaaABaseA
import Derived.Shelf.Bits.Mul64
namespace Go.Proofs.Ytbhhpkbiflolfaa.A
open Go.RowKit

/-- A number without its sign; its halves. -/
def absI (x : Int) : Int := if x < 0 then -x else x
def nhi (x : Int) : Int := absI x / 18446744073709551616
def nlo (x : Int) : Int := absI x % 18446744073709551616
theorem absI_nat (x : Int) : absI x = (x.natAbs : Int) := by unfold absI; split <;> omega
theorem absI_mul (a b : Int) : absI (a * b) = absI a * absI b := by
  rw [absI_nat, absI_nat, absI_nat, Int.natAbs_mul, Int.natCast_mul]
theorem nlo_bd (x : Int) : 0 ≤ nlo x ∧ nlo x ≤ 18446744073709551615 := by unfold nlo; omega
theorem nhi_bd (x : Int) : 0 ≤ nhi x := by
  have : 0 ≤ absI x := by unfold absI; split <;> omega
  unfold nhi
  omega
/-- Sizes that leave room for sums. -/
def small (x : Int) : Prop := -85070591730234615865843651857942052864 ≤ x ∧ x ≤ 85070591730234615865843651857942052864 + 36893488147419103232
theorem absI_bd {x : Int} (h : fits x) : 0 ≤ absI x ∧ absI x ≤ 9223372036854775808 := by unfold fits at h; unfold absI; split <;> omega

theorem size_neg (a : Int) (h : fits a) (hn : a < 0) : IntKind.u64.wrap (-lo64 a) = -a := by
  unfold fits at h
  rw [IntKind.wrap_u64]
  unfold lo64
  omega
theorem size_any (a : Int) (h : fits a) (w : World) : Calls Try.prog 82 #[.int .i64 a] w fun e w' => e = .returned (.int .u64 (absI a)) ∧ w' = w := by
  have hl := conv_lo a
  by_cases hn : a < 0
  · have he : absI a = -a := by unfold absI; rw [if_pos hn]
    have HS := hid (size_neg a h hn)
    rw [he]
    clear he
    go_enter Try.func82, Try.ntmps82
    go_wp2
    rw [HS.out]
    go_ret
    exact ⟨rfl, rfl⟩
  · have he : absI a = a := by unfold absI; rw [if_neg hn]
    have h2 : lo64 a = a := by unfold fits at h; unfold lo64; omega
    rw [he]
    rw [h2] at hl
    clear he h2
    go_enter Try.func82, Try.ntmps82
    go_wp2
    go_ret
    exact ⟨rfl, rfl⟩
theorem sizeN_any (a : Int) (h : fits a) (w : World) : Calls Try.prog 82 #[.int .i64 a] w fun e w' => e = .returned (.int .u64 ((a.natAbs : Nat) : Int)) ∧ w' = w := by
  have := size_any a h w
  rw [absI_nat] at this
  exact this

/-- A number of 128 bits as the document's Wide. -/
def refV (x : Int) : Value := .agg #[.bool (decide (x < 0)), .int .u64 (nhi x), .int .u64 (nlo x)]

theorem abs_zero {x : Int} (h1 : nhi x = 0) (h2 : nlo x = 0) : x = 0 := by
  unfold nhi at h1
  unfold nlo at h2
  have : absI x = 0 := by omega
  unfold absI at this
  split at this <;> omega
theorem sign_mul {a b : Int} (h : a * b ≠ 0) : (!decide (a < 0) == decide (b < 0)) = decide (a * b < 0) := by
  have ha : a ≠ 0 := fun e => h (by rw [e, Int.zero_mul])
  have hb : b ≠ 0 := fun e => h (by rw [e, Int.mul_zero])
  rcases Int.lt_or_gt_of_ne ha with h1 | h1 <;> rcases Int.lt_or_gt_of_ne hb with h2 | h2
  · have := Int.mul_pos_of_neg_of_neg h1 h2
    simp [h1, h2]; omega
  · have := Int.mul_neg_of_neg_of_pos h1 h2
    have h3 : ¬ b < 0 := by omega
    simp [h1, h3]; omega
  · have := Int.mul_neg_of_pos_of_neg h1 h2
    have h3 : ¬ a < 0 := by omega
    simp [h2, h3]; omega
  · have := Int.mul_pos h1 h2
    have h3 : ¬ a < 0 := by omega
    have h4 : ¬ b < 0 := by omega
    simp [h3, h4]; omega

set_option maxHeartbeats 2000000 in
theorem rtimes_any (a b : Int) (ha : fits a) (hb : fits b) (w : World) : Calls Try.prog 51 #[.int .i64 a, .int .i64 b] w fun e w' => e = .returned (refV (a * b)) ∧ Fr w w' (fun _ => False) := by
  have hX : a.natAbs < 18446744073709551616 := by unfold fits at ha; omega
  have hY : b.natAbs < 18446744073709551616 := by unfold fits at hb; omega
  have HSA := hid (fun W : World => sizeN_any a ha W)
  have HSB := hid (fun W : World => sizeN_any b hb W)
  have eh : nhi (a * b) = ((a.natAbs * b.natAbs / 18446744073709551616 : Nat) : Int) := by
    unfold nhi
    rw [absI_nat, Int.natAbs_mul]
    omega
  have el : nlo (a * b) = ((a.natAbs * b.natAbs % 18446744073709551616 : Nat) : Int) := by
    unfold nlo
    rw [absI_nat, Int.natAbs_mul]
    omega
  have EH := hid eh
  have EL := hid el
  clear eh el
  obtain ⟨X, hXe⟩ : ∃ X, X = a.natAbs := ⟨_, rfl⟩
  obtain ⟨Y, hYe⟩ : ∃ Y, Y = b.natAbs := ⟨_, rfl⟩
  rw [← hXe] at HSA hX EH EL
  rw [← hYe] at HSB hY EH EL
  have HXE := hid hXe
  have HYE := hid hYe
  clear hXe hYe
  obtain ⟨bd, bt, bw, hhi⟩ := Lib.mul64_hi X Y hX hY
  rw [Nat.add_comm _ (X % 4294967296 * (Y / 4294967296))] at bw hhi
  have ba := Lib.half_mul_le (a := X / 4294967296) (b := Y / 4294967296) (by omega) (by omega)
  have bb := Lib.half_mul_le (a := X / 4294967296) (b := Y % 4294967296) (by omega) (by omega)
  have bc := Lib.half_mul_le (a := X % 4294967296) (b := Y / 4294967296) (by omega) (by omega)
  have ba' : X / 4294967296 * (Y / 4294967296) < 18446744073709551616 := by omega
  have bb' : X / 4294967296 * (Y % 4294967296) < 18446744073709551616 := by omega
  have bc' : X % 4294967296 * (Y / 4294967296) < 18446744073709551616 := by omega
  have bh1 : X / 4294967296 * (Y / 4294967296) + (X / 4294967296 * (Y % 4294967296) + X % 4294967296 * (Y % 4294967296) / 4294967296) / 4294967296 < 18446744073709551616 := by omega
  have bh : X / 4294967296 * (Y / 4294967296) + (X / 4294967296 * (Y % 4294967296) + X % 4294967296 * (Y % 4294967296) / 4294967296) / 4294967296 + (X % 4294967296 * (Y / 4294967296) + (X / 4294967296 * (Y % 4294967296) + X % 4294967296 * (Y % 4294967296) / 4294967296) % 4294967296) / 4294967296 < 18446744073709551616 := by omega
  go_enter Try.func51, Try.ntmps51
  go_wp2_with fail
  refine (HSA.out _).mono ?_
  rintro e w1 ⟨rfl, rfl⟩
  go_wp2_with fail
  refine (HSB.out _).mono ?_
  rintro e w1 ⟨rfl, rfl⟩
  go_upto_region 11 with fail
  simp only [Mul64.maskN X hX, Mul64.maskN Y hY, Mul64.divN, Mul64.mulN, Mul64.addN, Mul64.wrapN _ bd, Mul64.wrapN _ bb', Mul64.wrapN _ bt, Mul64.maskN _ bt, Mul64.wrapN _ bc', Mul64.wrapN _ bw, Mul64.wrapN _ ba', Mul64.wrapN _ bh1, Mul64.wrapN _ bh, Mul64.wrapM (X * Y)]
  rw [hhi, ← EH.out, ← EL.out]
  clear HSA HSB EH EL HXE HYE bd bt bw hhi ba bb bc ba' bb' bc' bh1 bh
  have hsm := sign_mul (a := a) (b := b)
  obtain ⟨p, hp⟩ : ∃ p, p = a * b := ⟨_, rfl⟩
  rw [← hp] at hsm ⊢
  have HP := hid hp
  clear hp
  by_cases h0 : p = 0
  · have e1 : nhi p = 0 := by rw [h0]; decide
    have e2 : nlo p = 0 := by rw [h0]; decide
    have e3 : decide (p < 0) = false := by simp; omega
    rw [e1, e2]
    have E3 := hid e3
    have E1 := hid e1
    have E2 := hid e2
    clear hsm h0 e1 e2 e3
    go_wp2_with fail
    refine bodyPost_ret (v := .agg #[.bool false, .int .u64 0, .int .u64 0]) (by simp [results, Try.results51, go_sem]) rfl ⟨?_, ?_⟩
    · unfold refV
      rw [← HP.out, E1.out, E2.out, E3.out]
    · exact (alloc_fr _ _ _).alloc _
  · rw [hsm h0]
    have HH := hid h0
    clear hsm h0
    by_cases h1 : nhi p = 0
    · have h2 : ¬ nlo p = 0 := fun h2 => HH.out (abs_zero h1 h2)
      have b1 : (nhi p == 0) = true := by simpa using h1
      have b2 : (nlo p == 0) = false := by simpa using h2
      clear h1 h2
      go_wp2_with fail
      refine bodyPost_ret (v := .agg #[.bool (decide (p < 0)), .int .u64 (nhi p), .int .u64 (nlo p)]) (by simp [results, Try.results51, go_sem]) rfl ⟨by unfold refV; rw [← HP.out], (alloc_fr _ _ _).alloc _⟩
    · have b1 : (nhi p == 0) = false := by simpa using h1
      clear h1
      go_wp2_with fail
      refine bodyPost_ret (v := .agg #[.bool (decide (p < 0)), .int .u64 (nhi p), .int .u64 (nlo p)]) (by simp [results, Try.results51, go_sem]) rfl ⟨by unfold refV; rw [← HP.out], (alloc_fr _ _ _).alloc _⟩
end Go.Proofs.Ytbhhpkbiflolfaa.A
