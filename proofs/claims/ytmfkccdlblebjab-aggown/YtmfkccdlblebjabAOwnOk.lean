/- AggOwn: its walk, the way on which Fold answers. -/
import Derived.Test.YtmfkccdlblebjabAOwnS
import Derived.ProofKit
import Derived.OpenShut
import Derived.Below
import Derived.WalkSmall
namespace Go.Proofs.Ytmfkccdlblebjab
open Go.ChangeShapes Go.WideShapes Go.ChangeAt Go.RowKit

set_option maxHeartbeats 8000000 in
theorem own_ok (v : Value) (xs : List Int) (w : World) (hv : Is w v xs) (hn : Nz v) (a : Ag) (hfo : foldE Ag.zero xs = .ok a) :
    Calls Try.prog 6 #[v] w fun e w' => e = .returned (.bool true) ∧ Fr w w' (fun _ => False) := by
  obtain ⟨ao, cap, rfl, hlen, hfit, hcell⟩ := id hv
  have HV := hid hv
  have HFIT := hid hfit
  have HN := hid hn
  have HFO0 := hid hfo
  clear hfit hcell hv hn hfo
  go_enter Try.func6, Try.ntmps6
  go_wp2_with fail
  refine (known_any _).mono ?_
  rintro e w1 ⟨rfl, hf1⟩
  have HF1 := hid hf1
  clear hf1
  by_cases h5 : 5000 < xs.length
  · have t2 : (5000 : Int) < (xs.length : Int) := by omega
    go_wp2_with fail
    go_ret
    exact ⟨rfl, HF1.out⟩
  have t2 : ¬ (5000 : Int) < (xs.length : Int) := by omega
  go_wp2_with fail
  refine (room_any _ xs w1 (HV.out.fr HF1.out) HN.out (by omega)).mono ?_
  rintro e w2 ⟨rfl, hr2, hf2⟩
  have HO2 : Hid (OwnS w (.slice ao xs.length cap) xs w1.heap.size [] w2) := ⟨hr2, (HV.out.fr HF1.out).fr hf2, fun q hq => by simp at hq, HF1.out.trans hf2⟩
  clear hr2 hf2
  generalize w1.heap.size = N at *
  have HR0 := hid (fun W : World => right_any ⟨0, 0, 0, 0⟩ ⟨by decide, by decide, by decide, by decide⟩ W)
  simp only [show rightB 0 0 0 0 = true from by decide] at HR0
  have hlen2 : xs.length ≤ 140737488355328 := hlen
  go_wp2_with fail
  refine (fold_any _ xs w2 (row_is HO2.out.row HFIT.out hlen2)).mono ?_
  rintro e w3 ⟨hf3, hr3⟩
  have HO3 := hid (HO2.out.step hf3)
  clear hf3 HO2
  have hfo := HFO0.out
  rw [hfo] at hr3
  have hr3 := hr3.symm
  subst hr3
  have hc : a.c = xs.length := by rw [foldE_stat hfo]; exact stat_count xs
  have HC := hid hc
  clear hc
  have HFO := hid hfo
  clear hfo
  have HO3' := hid (HO3.out.new (agO a))
  clear HO3
  go_wp2_with fail
  refine (least_any _ xs _ (row_is HO3'.out.row HFIT.out hlen2)).mono ?_
  rintro e w4 ⟨rfl, rfl⟩
  go_wp2_with fail
  refine (most_any _ xs _ (row_is HO3'.out.row HFIT.out hlen2)).mono ?_
  rintro e w4 ⟨rfl, rfl⟩
  go_wp2_with fail
  refine (still_any _ xs N _ HO3'.out.arg HO3'.out.row (by omega)).mono ?_
  rintro e w4 ⟨rfl, m4, hw4⟩
  have HO4 := hid (HO3'.out.drewN m4)
  rw [← hw4] at HO4
  have hz4 : w4.heap.size = w3.heap.size + 1 := by rw [hw4]; simp
  clear HO3' hw4
  go_wp2_with fail
  refine (fold_any _ xs w4 (row_is HO4.out.row HFIT.out hlen2)).mono ?_
  rintro e w5 ⟨hf5, hr5⟩
  rw [HFO.out] at hr5
  have hr5 := hr5.symm
  subst hr5
  have hl5 : w3.heap.size < w5.heap.size := by have := hf5.size; omega
  have HO5 := hid ((HO4.out.step hf5).new (agO a))
  clear hf5 HO4 hz4
  go_wp2_with fail
  refine (least_any _ xs _ (row_is HO5.out.row HFIT.out hlen2)).mono ?_
  rintro e w6 ⟨rfl, rfl⟩
  go_wp2_with fail
  refine (most_any _ xs _ (row_is HO5.out.row HFIT.out hlen2)).mono ?_
  rintro e w6 ⟨rfl, rfl⟩
  go_wp2_with fail
  generalize w3.heap.size = X at *
  generalize w5.heap.size = Y at *
  generalize (stat xs).lo = lo at *
  generalize (stat xs).hi = hi at *
  clear hl5
  generalize w5.alloc (agO a) = W0 at *
  have hcb : (a.c == (xs.length : Int)) = true := by simpa using HC.out
  go_region_held3 (fun W' => Hid (OwnS w (.slice ao xs.length cap) xs N [(Y, agO a), (X, agO a)] W') ∧ (W'.cell? ⟨X, 0, none⟩ = some (.int .i64 a.c) ∧ W'.cell? ⟨X, 1, none⟩ = some (.int .i64 a.s) ∧ W'.cell? ⟨X, 2, none⟩ = some (.int .i64 a.lo) ∧ W'.cell? ⟨X, 3, none⟩ = some (.int .i64 a.hi)) ∧ (W'.cell? ⟨Y, 0, none⟩ = some (.int .i64 a.c) ∧ W'.cell? ⟨Y, 1, none⟩ = some (.int .i64 a.s) ∧ W'.cell? ⟨Y, 2, none⟩ = some (.int .i64 a.lo) ∧ W'.cell? ⟨Y, 3, none⟩ = some (.int .i64 a.hi)))
    ((refine own_two ?_; repeat (first | exact HB.out | exact HA.out | exact HO5.out | apply OwnS.drew | apply OwnS.drewN | apply OwnS.alloc)))
    (first
      | (go_at_call 18; refine (still_any _ xs N _ ?_ ?_ ?_).mono ?_; (exact OwnS.arg (by repeat (first | exact HO5.out | apply OwnS.drew | apply OwnS.alloc))); (exact OwnS.row (by repeat (first | exact HO5.out | apply OwnS.drew | apply OwnS.alloc))); omega; rintro e v1 ⟨rfl, m1, rfl⟩; have HA := hid (OwnS.drewN (by repeat (first | exact HO5.out | apply OwnS.drew | apply OwnS.alloc)) m1))
      | (go_at_call 9; refine (HR0.out _).mono ?_; rintro e v2 ⟨rfl, hf2⟩; go_must (have HB : Hid (OwnS w (.slice ao xs.length cap) xs N [(Y, agO a), (X, agO a)] v2) := OwnS.step (by repeat (first | exact HA.out | exact HO5.out | apply OwnS.drew | apply OwnS.drewN | apply OwnS.alloc)) hf2); clear hf2))
  all_goals (go_wp2_with fail)
  all_goals go_ret
  all_goals exact ⟨rfl, (OwnS.sb (by repeat (first | exact HB.out | apply OwnS.drew | apply OwnS.drewN | apply OwnS.alloc))).2⟩
end Go.Proofs.Ytmfkccdlblebjab
