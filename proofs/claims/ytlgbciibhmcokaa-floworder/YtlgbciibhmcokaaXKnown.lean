/- spatelaw15: known: a walk. -/
import Derived.Test.YtlgbciibhmcokaaXFlow
namespace Go.Proofs.Ytlgbciibhmcokaa
open Go.RowKit

def kx1 : It := ⟨false, ⟨#[99]⟩, 0, 3⟩
def kx2 : It := ⟨true, ⟨#[]⟩, 5, 0⟩
theorem kr : rtF 2 ⟨#[99]⟩ = 0 ∧ rtF 2 ⟨#[97]⟩ = 1 := by decide +kernel
theorem kp1 : putE (newP 1 2) 0 kx1 = 0 ∧ putS (newP 1 2) 0 kx1 = ⟨[[kx1]], [0], [[], []]⟩ := ⟨by decide +kernel, rfl⟩
theorem kp2 : putE ⟨[[kx1]], [0], [[], []]⟩ 0 kx2 = 0 ∧ putS ⟨[[kx1]], [0], [[], []]⟩ 0 kx2 = ⟨[[kx1, kx2]], [0], [[], []]⟩ := ⟨by decide +kernel, rfl⟩
theorem kf1 : firR ⟨[[kx1, kx2]], [0], [[], []]⟩ 0 = (0, kx1, 0) := by
  have h := firR_cons (s := ⟨[[kx1, kx2]], [0], [[], []]⟩) (n := 0) (by decide) (x := kx1) (L := [kx2]) rfl
  have e : tow ⟨[[kx1, kx2]], [0], [[], []]⟩ 0 kx1 = 0 := by unfold tow; rw [if_neg (by decide)]; exact kr.1
  rw [e] at h
  exact h
theorem kq1 : pasR ⟨[[kx1, kx2]], [0], [[], []]⟩ 1 0 = (0, 0) ∧ pasS ⟨[[kx1, kx2]], [0], [[], []]⟩ 1 0 = ⟨[[kx2]], [0], [[⟨0, kx1⟩], []]⟩ := by
  unfold pasR pasS
  rw [kf1]
  exact ⟨rfl, rfl⟩
theorem kf2 : firR ⟨[[kx2]], [0], [[⟨0, kx1⟩], []]⟩ 0 = (0, kx2, 0) := firR_cons (s := ⟨[[kx2]], [0], [[⟨0, kx1⟩], []]⟩) (n := 0) (by decide) (x := kx2) (L := []) rfl
theorem kq2 : pasR ⟨[[kx2]], [0], [[⟨0, kx1⟩], []]⟩ 1 0 = (0, 45) ∧ pasS ⟨[[kx2]], [0], [[⟨0, kx1⟩], []]⟩ 1 0 = ⟨[[kx2]], [0], [[⟨0, kx1⟩], []]⟩ := by
  unfold pasR pasS
  rw [kf2]
  exact ⟨rfl, rfl⟩
theorem kt : takR ⟨[[kx2]], [0], [[⟨0, kx1⟩], []]⟩ 0 = (⟨0, kx1⟩, 0) ∧ takS ⟨[[kx2]], [0], [[⟨0, kx1⟩], []]⟩ 0 = ⟨[[kx2]], [0], [[], []]⟩ := ⟨rfl, rfl⟩
set_option maxHeartbeats 4000000 in
theorem known_any (w : World) : Calls Try.prog 8 #[] w fun e w' => e = .returned (.bool true) ∧ Fr w w' (fun _ => False) := by
  have HN := hid (fnew_i (w0 := w) (ns := 1) (no := 2) (box := 1) w (by omega) (by omega) (by omega) (Fr.refl _ _))
  have HNB := hid (fun W => fnew_bad (ns := 0) (no := 1) (box := 1) W (by omega))
  have HP1 := hid (fun (W : World) (B : Nat) (h : FlI w W B 1 (newP 1 2)) => h.put 0 kx1)
  rw [kp1.1, kp1.2] at HP1
  have HP2 := hid (fun (W : World) (B : Nat) (h : FlI w W B 1 ⟨[[kx1]], [0], [[], []]⟩) => h.put 0 kx2)
  rw [kp2.1, kp2.2] at HP2
  have HQU := hid (fun (W : World) (B : Nat) (h : FlI w W B 1 ⟨[[kx1, kx2]], [0], [[], []]⟩) => h.queued 0)
  have HR1 := hid (fun (W : World) (B : Nat) (h : FlI w W B 1 ⟨[[kx1, kx2]], [0], [[], []]⟩) => h.route ⟨#[99]⟩ (by decide))
  have HR2 := hid (fun (W : World) (B : Nat) (h : FlI w W B 1 ⟨[[kx1, kx2]], [0], [[], []]⟩) => h.route ⟨#[97]⟩ (by decide))
  simp only [List.length_cons, List.length_nil] at HR1 HR2
  rw [show 0 + 1 + 1 = 2 from rfl, kr.1] at HR1
  rw [show 0 + 1 + 1 = 2 from rfl, kr.2] at HR2
  have HA1 := hid (fun (W : World) (B : Nat) (h : FlI w W B 1 ⟨[[kx1, kx2]], [0], [[], []]⟩) => h.pass 0)
  rw [kq1.1, kq1.2] at HA1
  have HA2 := hid (fun (W : World) (B : Nat) (h : FlI w W B 1 ⟨[[kx2]], [0], [[⟨0, kx1⟩], []]⟩) => h.pass 0)
  rw [kq2.1, kq2.2] at HA2
  have HT := hid (fun (W : World) (B : Nat) (h : FlI w W B 1 ⟨[[kx2]], [0], [[⟨0, kx1⟩], []]⟩) => h.take 0)
  rw [kt.1, kt.2] at HT
  have HBO := hid (fun (W : World) (B : Nat) (h : FlI w W B 1 ⟨[[kx2]], [0], [[], []]⟩) => h.boxed 0)
  have HEM := hid (fun (W : World) (B : Nat) (h : FlI w W B 1 ⟨[[kx2]], [0], [[], []]⟩) => h.empty)
  rw [show lenAt 0 [[kx1, kx2]] = 2 from rfl] at HQU
  rw [show lenAt 0 ([[], []] : List (List Ms)) = 0 from rfl] at HBO
  rw [show empB ⟨[[kx2]], [0], [[], []]⟩ = false from rfl] at HEM
  simp only [vI, kx1, kx2] at HP1 HP2 HA1 HA2 HT
  have heq : ∀ W : World, (binOp .eql 33 (.agg #[.bool false, .string ⟨#[99]⟩, .int .i64 0, .int .i64 3]) (.agg #[.bool false, .string ⟨#[99]⟩, .int .i64 0, .int .i64 3])).run Try.prog W = .ok (.bool true) W := fun W => by kernel_rfl
  go_enter Try.func8, Try.ntmps8
  go_wp2_with fail
  refine HN.out.mono ?_
  rintro e w1 ⟨B, rfl, O, hO, _, _⟩
  have H1 : Hid (FlI w w1 B 1 (newP 1 2)) := ⟨O, hO⟩
  clear hO HN
  go_wp2_with fail
  refine (HNB.out _).mono ?_
  rintro e w2 ⟨rfl, hf⟩
  have H2 := hid (H1.out.still hf)
  clear hf H1
  go_wp2_with fail
  refine (HP1.out _ _ H2.out).mono ?_
  rintro e w3 ⟨rfl, h3⟩
  have H3 := hid h3
  clear h3 H2
  go_wp2_with fail
  refine (HP2.out _ _ H3.out).mono ?_
  rintro e w4 ⟨rfl, h4⟩
  have H4 := hid h4
  clear h4 H3
  go_wp2_with fail
  refine (HQU.out _ _ H4.out).mono ?_
  rintro e w5 ⟨rfl, h5⟩
  have H5 := hid h5
  clear h5 H4
  go_wp2_with fail
  refine (HR1.out _ _ H5.out).mono ?_
  rintro e w6 ⟨rfl, h6⟩
  have H6 := hid h6
  clear h6 H5
  go_wp2_with fail
  refine (HR2.out _ _ H6.out).mono ?_
  rintro e w7 ⟨rfl, h7⟩
  have H7 := hid h7
  clear h7 H6
  go_wp2_with fail
  refine (HA1.out _ _ H7.out).mono ?_
  rintro e w8 ⟨rfl, h8⟩
  have H8 := hid h8
  clear h8 H7
  go_wp2_with fail
  refine (HA2.out _ _ H8.out).mono ?_
  rintro e w9 ⟨rfl, h9⟩
  have H9 := hid h9
  clear h9 H8
  go_wp2_with fail
  refine (HT.out _ _ H9.out).mono ?_
  rintro e w10 ⟨rfl, h10⟩
  have H10 := hid h10
  clear h10 H9
  go_wp2_with fail
  refine (HBO.out _ _ (H10.out.still (alloc_fr _ _ _))).mono ?_
  rintro e w11 ⟨rfl, h11⟩
  have H11 := hid h11
  clear h11 H10
  go_wp2_with fail
  refine (HEM.out _ _ H11.out).mono ?_
  rintro e w12 ⟨rfl, h12⟩
  have H12 := hid h12
  clear h12 H11
  go_wp2_with fail
  go_ret
  exact ⟨rfl, H12.out.fr⟩
end Go.Proofs.Ytlgbciibhmcokaa
