/- The law's Same and head: walks. -/
import Derived.Test.YtfdkinghcalhfabPWalk3
namespace Go.Proofs.Ytfdkinghcalhfab
open Go.RowKit

set_option maxHeartbeats 1000000 in
theorem same_true (v u : Value) (xs : List Int) (w : World) (hv : Is w v xs) (hu : Is w u xs) :
    Calls Try.prog 16 #[v, u] w fun e w' => e = .returned (.bool true) ∧ Fr w w' (fun _ => False) := by
  obtain ⟨ao, cap, rfl, hlen, hfit, hcell⟩ := id hv
  obtain ⟨bo, cbp, rfl, _, _, hcell2⟩ := id hu
  have HV := hid hv
  have HU := hid hu
  clear hv hu hcell hcell2 hfit
  go_enter Try.func16, Try.ntmps16
  go_wp2_with fail
  go_loopg [5] xs.length (fun g s5 wx => ∃ i : Nat, s5 = .int .i64 (i : Int) ∧ i + g = xs.length ∧ Hid (Fr w wx (fun _ => False)))
  case atStart => exact ⟨0, rfl, by omega, Fr.refl _ _⟩
  case round =>
    obtain ⟨i, rfl, hg, HF⟩ := hrel
    cases gk with
    | zero =>
      have t1 : ¬ (i : Int) < (xs.length : Int) := by omega
      clear hg
      go_wp2_with fail
      go_ret
      exact ⟨rfl, HF.out⟩
    | succ g =>
      have hi : i < xs.length := by omega
      have t1 : (i : Int) < (xs.length : Int) := by omega
      obtain ⟨ao', cap', e, _, _, hc1⟩ := HV.out.fr HF.out
      obtain ⟨b, off, e2, k1⟩ := hc1 (by intro e; subst e; simp at hi)
      cases e
      cases e2
      obtain ⟨bo', cbp', e, _, _, hc2⟩ := HU.out.fr HF.out
      obtain ⟨b2, off2, e2, k2⟩ := hc2 (by intro e; subst e; simp at hi)
      cases e
      cases e2
      have c1 := k1 i hi
      have c2 := k2 i hi
      clear hc1 hc2 k1 k2
      generalize xs.getD i 0 = x at *
      have HG := hid hg
      clear hg
      go_wp2_with fail
      go_region
      go_wp2_with fail
      go_roundg g
      case measure => omega
      case rel => exact ⟨i + 1, by go_num, by have := HG.out; omega, HF.out.drew⟩

theorem headL : startsL 10 5 (-1) = [-10, -5] := by decide
theorem ten : OkV 10 5 0 := by decide
theorem head_lit (W : World) : Is (W.alloc (.cells #[.int .i64 (-10), .int .i64 (-5)] 2)) (.slice (some ⟨W.heap.size, 0, none⟩) 2 2) [-10, -5] := by
  refine ⟨some ⟨W.heap.size, 0, none⟩, 2, rfl, by decide, by decide, fun _ => ⟨W.heap.size, 0, rfl, fun i hi => ?_⟩⟩
  have h : RowV (W.alloc (.cells #[.int .i64 (-10), .int .i64 (-5)] 2)) W.heap.size (iv [-10, -5]) := heap_last W _ _ rfl
  rw [h.cell, Nat.zero_add, iv_get _ i hi]
theorem row_is {w : World} {b : Nat} {xs : List Int} (h : RowV w b (iv xs)) (hf : ∀ x ∈ xs, fits x) (hl : xs.length ≤ 140737488355328) (cap : Nat) : Is w (.slice (some ⟨b, 0, none⟩) xs.length cap) xs := by
  refine ⟨_, _, rfl, hl, hf, fun _ => ⟨b, 0, rfl, fun i hi => ?_⟩⟩
  rw [h.cell, Nat.zero_add, iv_get xs i hi]

set_option maxHeartbeats 1000000 in
theorem head_any (w : World) : Calls Try.prog 8 #[] w fun e w' => e = .returned (.bool true) ∧ Fr w w' (fun _ => False) := by
  go_enter Try.func8, Try.ntmps8
  have HS := hid (fun W : World => starts_ok (t := -1) ten (by unfold Ti; decide) W)
  rw [headL] at HS
  have HC := hid (fun W : World => check_ok ten W)
  have HE := hid (fun W : World => end_any 10 5 0 5 (by decide) W)
  have HCL := hid (fun W : World => closed_any 10 5 0 5 15 (by decide) (by decide) W)
  have HCL2 := hid (fun W : World => closed_any 10 5 0 5 14 (by decide) (by decide) W)
  go_wp2_with fail
  refine (HS.out _).mono ?_
  rintro e w1 ⟨b, rfl, hb, hrow, hf1⟩
  have HR := hid hrow
  have HV1 := hid ((VwAt.new w 10 5 0).fr hf1 (fun h => h))
  have HF1 := hid ((alloc_fr w _ _).trans hf1)
  clear hf1 hrow HS
  obtain ⟨c0, c1, c2⟩ := HV1.out.cells
  have hlt := HV1.out.lt
  go_wp2_with fail
  have HIS := hid (same_true _ _ [-10, -5] _ ((row_is HR.out (by decide) (by decide) 2).fr (alloc_fr w1 _ _)) (head_lit w1))
  refine HIS.out.mono ?_
  rintro e w2 ⟨rfl, hf2⟩
  have HV2 := hid (HV1.out.fr ((alloc_fr w1 _ _).trans hf2) (fun h => h))
  have HF2 := hid ((HF1.out.alloc _).trans hf2)
  clear hf2 c0 c1 c2 hlt HIS HV1 HF1
  obtain ⟨c0, c1, c2⟩ := HV2.out.cells
  have hlt := HV2.out.lt
  go_wp2_with fail
  refine (HC.out _).mono ?_
  rintro e w3 ⟨rfl, hf3⟩
  have HV3 := hid (HV2.out.fr hf3 (fun h => h))
  have HF3 := hid (HF2.out.trans hf3)
  clear hf3 c0 c1 c2 hlt HV2 HF2
  obtain ⟨c0, c1, c2⟩ := HV3.out.cells
  have hlt := HV3.out.lt
  go_wp2_with fail
  refine (HE.out _).mono ?_
  rintro e w4 ⟨rfl, hf4⟩
  have HV4 := hid (HV3.out.fr hf4 (fun h => h))
  have HF4 := hid (HF3.out.trans hf4)
  clear hf4 c0 c1 c2 hlt HV3 HF3
  obtain ⟨c0, c1, c2⟩ := HV4.out.cells
  have hlt := HV4.out.lt
  go_wp2_with fail
  refine (HCL.out _).mono ?_
  rintro e w5 ⟨rfl, hf5⟩
  have HV5 := hid (HV4.out.fr hf5 (fun h => h))
  have HF5 := hid (HF4.out.trans hf5)
  clear hf5 c0 c1 c2 hlt HV4 HF4
  obtain ⟨c0, c1, c2⟩ := HV5.out.cells
  have hlt := HV5.out.lt
  go_wp2_with fail
  refine (HCL2.out _).mono ?_
  rintro e w6 ⟨rfl, hf6⟩
  have HF6 := hid (HF5.out.trans hf6)
  clear hf6
  go_wp2_with fail
  go_ret
  exact ⟨rfl, HF6.out⟩
end Go.Proofs.Ytfdkinghcalhfab
