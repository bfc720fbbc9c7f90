/- NetPlays: told: a walk. -/
import Derived.Test.YtljkbnjdciljfaaNPlaysP
import Derived.Deep.RegionHeld
namespace Go.Proofs.Ytljkbnjdciljfaa
open Go.RowKit

theorem conv8 {W : World} {lo : Nat} {v : Value} {xs : List Nat} (h : Rw W lo 5 v xs) : (convert 33 9 v).run Try.prog W = .ok (.string (str8 xs)) W := by
  obtain ⟨ao, cap, rfl, _, _⟩ := h.shape
  exact run_str8 Try.underlying33 Try.underlying5 Try.underlying9 (bs_all h)
set_option maxHeartbeats 8000000 in
set_option maxRecDepth 100000 in
theorem toldB_any {w W : World} {A G : Nat} {s : Np} {S : Nat → Prop} (h : PP w W A G s s S) (hm : s.m ≤ 70368744177664) (c : Int) : Calls Try.prog 14 #[.pointer (some ⟨A, 0, none⟩), .pointer (some ⟨G, 0, none⟩), .int .i64 c] W fun e w' => e = .returned (.bool true) ∧ Fr W w' (fun _ => False) := by
  have H0 : Hid (∀ W', Fr W W' (fun _ => False) → PP w W' A G s s S) := fun W' hf => h.still hf
  have HM := hid hm
  have H1 := hid (h.heard hm c)
  clear h hm
  go_enter Try.func14, Try.ntmps14
  go_wp2_with fail
  refine H1.out.mono ?_
  rintro e w1 ⟨u1, rfl, hr1, hf⟩
  have HF1 := hid hf
  have HR1 := hid hr1
  have H2 := hid ((H0.out _ hf).rheard HM.out c)
  clear hf hr1 H1
  go_wp2_with fail
  refine H2.out.mono ?_
  rintro e w2 ⟨u2, rfl, hr2, hf⟩
  have HF2 := hid (HF1.out.trans hf)
  have HR1b := hid (HR1.out.fr hf (fun _ _ h => h))
  have HR2 := hid hr2
  have H3 := hid ((H0.out _ HF2.out).is c)
  clear hf hr2 H2 HR1 HF1
  go_wp2_with fail
  refine H3.out.mono ?_
  rintro e w3 ⟨rfl, hf⟩
  have HF3 := hid (HF2.out.trans hf)
  have HR1c := hid (HR1b.out.fr hf (fun _ _ h => h))
  have HR2c := hid (HR2.out.fr hf (fun _ _ h => h))
  have H4 := hid ((H0.out _ HF3.out).ris c)
  clear hf H3 HR1b HR2 HF2
  go_wp2_with fail
  refine H4.out.mono ?_
  rintro e w4 ⟨rfl, hf⟩
  have HF4 := hid (HF3.out.trans hf)
  have HR1d := hid (HR1c.out.fr hf (fun _ _ h => h))
  have HR2d := hid (HR2c.out.fr hf (fun _ _ h => h))
  have H5 := hid ((H0.out _ HF4.out).under c)
  clear hf H4 HR1c HR2c HF3
  go_wp2_with fail
  refine H5.out.mono ?_
  rintro e w5 ⟨rfl, hf⟩
  have HF5 := hid (HF4.out.trans hf)
  have HR1e := hid (HR1d.out.fr hf (fun _ _ h => h))
  have HR2e := hid (HR2d.out.fr hf (fun _ _ h => h))
  have H6 := hid ((H0.out _ HF5.out).runder c)
  clear hf H5 HR1d HR2d HF4
  go_wp2_with fail
  refine H6.out.mono ?_
  rintro e w6 ⟨rfl, hf⟩
  have HF6 := hid (HF5.out.trans hf)
  have HR1f := hid (HR1e.out.fr hf (fun _ _ h => h))
  have HR2f := hid (HR2e.out.fr hf (fun _ _ h => h))
  clear hf H6 HR1e HR2e HF5
  have HCL : Hid (∀ W', Fr w6 W' (fun _ => False) → (convert 33 9 u1).run Try.prog W' = .ok (.string (str8 (heardB s c))) W' ∧ (convert 33 9 u2).run Try.prog W' = .ok (.string (str8 (heardB s c))) W' ∧ W'.cell? ⟨G, 3, none⟩ = some (.int .i64 (s.m : Int)) ∧ G < W'.heap.size) := fun W' hf => by
    obtain ⟨_, h2, h3⟩ := (H0.out _ (HF6.out.trans hf)).moved
    exact ⟨conv8 (HR1f.out.fr hf (fun _ _ h => h)), conv8 (HR2f.out.fr hf (fun _ _ h => h)), h2, h3⟩
  have HMV := hid (fun W' (hf : Fr w6 W' (fun _ => False)) => (H0.out _ (HF6.out.trans hf)).moved.1)
  have HFZ : Hid (Fr w6 w6 (fun _ => False)) := Fr.refl _ _
  clear H0 HM HR1f HR2f
  generalize str8 (heardB s c) = SZ at *
  generalize heardN s c = B1 at *
  generalize isO s c = B2 at *
  generalize isT s c = B3 at *
  generalize undI s c = I1 at *
  generalize undO s c = I2 at *
  generalize s.m = SM at *
  go_wp2_with fail
  go_region_held (fun W' => (convert 33 9 u1).run Try.prog W' = .ok (.string SZ) W' ∧ (convert 33 9 u2).run Try.prog W' = .ok (.string SZ) W' ∧ W'.cell? ⟨G, 3, none⟩ = some (.int .i64 (SM : Int)) ∧ G < W'.heap.size)
    ((refine HCL.out _ ?_; first | exact HFZ.out | exact HFZ.out.drew | exact HFZ.out.drewN _))
    ((go_at_call 20; refine (HMV.out _ (by first | exact HFZ.out | exact HFZ.out.drew | exact HFZ.out.drewN _)).mono ?_; rintro e w7 ⟨rfl, rfl⟩))
  all_goals
    go_wp2
    go_ret
    exact ⟨rfl, by first | exact HF6.out | exact HF6.out.drew | exact HF6.out.drewN _⟩
end Go.Proofs.Ytljkbnjdciljfaa
