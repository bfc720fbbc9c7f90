/- NetPlays: asked: walks. -/
import Derived.Test.YtljkbnjdciljfaaNTold
import Derived.Test.YtljkbnjdciljfaaNLend
import Derived.Deep.RegionHeld3
namespace Go.Proofs.Ytljkbnjdciljfaa
open Go.RowKit

/-- A step that lies in a box. -/
def Bz (W : World) (N : Nat) (k c : Int) (v : Value) (m : Int) : Prop := W.heap[N]? = some (.cells #[.int .i64 k, .int .i64 c, v, .int .i64 m] 35 (0, 0))
theorem Bz.new (W : World) (k c : Int) (v : Value) (m : Int) : Bz (W.alloc (.cells #[.int .i64 k, .int .i64 c, v, .int .i64 m] 35)) W.heap.size k c v m := heap_alloc_new W _
theorem Bz.fr {W W' : World} {S : Nat → Prop} {N : Nat} {k c : Int} {v : Value} {m : Int} (h : Bz W N k c v m) (hf : Fr W W' S) (hS : ¬ S N) : Bz W' N k c v m := keep_block h hf hS
theorem Bz.still {W W' : World} {N : Nat} {k c : Int} {v : Value} {m : Int} (h : Bz W N k c v m) (hf : Fr W W' (fun _ => False)) : Bz W' N k c v m := h.fr hf (fun h => h)
theorem Bz.keep {W W' : World} {S : Nat → Prop} {N : Nat} {k c : Int} {v : Value} {m : Int} (h : Bz W N k c v m) (hf : Fr W W' (fun k => ¬ S k)) (hS : S N) : Bz W' N k c v m := h.fr hf (fun h => h hS)
theorem Bz.cells {W : World} {N : Nat} {k c : Int} {v : Value} {m : Int} (h : Bz W N k c v m) : W.cell? ⟨N, 0, none⟩ = some (.int .i64 k) ∧ W.cell? ⟨N, 1, none⟩ = some (.int .i64 c) ∧ W.cell? ⟨N, 2, none⟩ = some v ∧ W.cell? ⟨N, 3, none⟩ = some (.int .i64 m) ∧ N < W.heap.size := by
  have h' : W.heap[N]? = some (.cells #[.int .i64 k, .int .i64 c, v, .int .i64 m] 35 (0, 0)) := h
  refine ⟨?_, ?_, ?_, ?_, lt_of_block h'⟩ <;> (rw [cell_of_row W N _ _ _ (0, 0) h']; rfl)
theorem BsC.lo9 {w W : World} {v : Value} {xs : List Nat} (h : BsC w v xs) (hf : Fr w W (fun _ => False)) : BsC W v xs := h.fr hf (fun _ h => h.elim)
set_option maxHeartbeats 8000000 in
set_option maxRecDepth 100000 in
theorem asked1_any {w W : World} {A G : Nat} {s : Np} (h : PP w W A G s s (fun _ => False)) (c m : Int) {ao : Option Addr} {cap : Nat} {xb : List Nat} : Calls Try.prog 13 #[.pointer (some ⟨A, 0, none⟩), .pointer (some ⟨G, 0, none⟩), .agg #[.int .i64 1, .int .i64 c, .slice ao xb.length cap, .int .i64 m]] W fun e w' => e = .returned (.bool true) ∧ PP w w' A G (openS s c) (openS s c) (fun _ => False) := by
  have B0 := hid (Bz.new W 1 c (.slice ao xb.length cap) m)
  have H0 := hid (h.box (N := W.heap.size) (alloc_fr W (.cells #[.int .i64 1, .int .i64 c, .slice ao xb.length cap, .int .i64 m] 35) (fun _ => False)) (Nat.le_refl _) (by simp))
  obtain ⟨N, hN⟩ : ∃ N, W.heap.size = N := ⟨_, rfl⟩
  rw [hN] at B0 H0
  have HP := hid (fun W' t (h : PP w W' A G s t (fun k => k = N ∨ False)) => h.open c)
  have HR := hid (fun W' u (h : PP w W' A G u s (fun k => k = N ∨ False)) => h.ropen c)
  have HNN := hid hN
  generalize openE s c = E at *
  generalize openS s c = s' at *
  clear h hN
  go_enter Try.func13, Try.ntmps13
  go_wp2_with fail
  rw [HNN.out]
  generalize W.alloc (.cells #[.int .i64 1, .int .i64 c, .slice ao xb.length cap, .int .i64 m] 35) = w0 at *
  have HCL : Hid (∀ W', Bz W' N 1 c (.slice ao xb.length cap) m → W'.cell? ⟨N, 1, none⟩ = some (.int .i64 c) ∧ N < W'.heap.size) := fun W' h => ⟨h.cells.2.1, h.cells.2.2.2.2⟩
  have HFZ : Hid (Fr w0 w0 (fun _ => False)) := Fr.refl _ _
  go_region_held3 (fun W' => W'.cell? ⟨N, 1, none⟩ = some (.int .i64 c) ∧ N < W'.heap.size)
    ((refine HCL.out _ ?_; first | exact BP.out | exact BR.out | exact B0.out | exact B0.out.still HFZ.out.drew | exact B0.out.still (HFZ.out.drewN _)))
    ((first
      | (go_at_call 16; refine (HP.out _ _ (by first | exact R1.out | exact H0.out | exact H0.out.still HFZ.out.drew | exact H0.out.still (HFZ.out.drewN _))).mono ?_; rintro e wa ⟨rfl, h1, hf1⟩; have BP := hid (Bz.keep (by first | exact BR.out | exact B0.out | exact B0.out.still HFZ.out.drew | exact B0.out.still (HFZ.out.drewN _)) hf1 (Or.inl rfl)); have P1 := hid h1; clear h1 hf1)
      | (go_at_call 34; refine (HR.out _ _ (by first | exact P1.out | exact H0.out | exact H0.out.still HFZ.out.drew | exact H0.out.still (HFZ.out.drewN _))).mono ?_; rintro e wb ⟨rfl, h1, hf1⟩; have BR := hid (Bz.keep (by first | exact BP.out | exact B0.out | exact B0.out.still HFZ.out.drew | exact B0.out.still (HFZ.out.drewN _)) hf1 (Or.inl rfl)); have R1 := hid h1; clear h1 hf1)))
  all_goals
    go_wp2
    go_ret
    exact ⟨rfl, by first | exact R1.out.less (fun _ h => h.elim) | exact P1.out.less (fun _ h => h.elim)⟩
set_option maxHeartbeats 8000000 in
set_option maxRecDepth 100000 in
theorem asked7_any {w W : World} {A G : Nat} {s : Np} (h : PP w W A G s s (fun _ => False)) (c m : Int) {ao : Option Addr} {cap : Nat} {xb : List Nat} : Calls Try.prog 13 #[.pointer (some ⟨A, 0, none⟩), .pointer (some ⟨G, 0, none⟩), .agg #[.int .i64 7, .int .i64 c, .slice ao xb.length cap, .int .i64 m]] W fun e w' => e = .returned (.bool true) ∧ PP w w' A G (closeS s c) (closeS s c) (fun _ => False) := by
  have B0 := hid (Bz.new W 7 c (.slice ao xb.length cap) m)
  have H0 := hid (h.box (N := W.heap.size) (alloc_fr W (.cells #[.int .i64 7, .int .i64 c, .slice ao xb.length cap, .int .i64 m] 35) (fun _ => False)) (Nat.le_refl _) (by simp))
  obtain ⟨N, hN⟩ : ∃ N, W.heap.size = N := ⟨_, rfl⟩
  rw [hN] at B0 H0
  have HP := hid (fun W' t (h : PP w W' A G s t (fun k => k = N ∨ False)) => h.close c)
  have HR := hid (fun W' u (h : PP w W' A G u s (fun k => k = N ∨ False)) => h.rclose c)
  have HNN := hid hN
  generalize useE s c = E at *
  generalize closeS s c = s' at *
  clear h hN
  go_enter Try.func13, Try.ntmps13
  go_wp2_with fail
  rw [HNN.out]
  generalize W.alloc (.cells #[.int .i64 7, .int .i64 c, .slice ao xb.length cap, .int .i64 m] 35) = w0 at *
  have HCL : Hid (∀ W', Bz W' N 7 c (.slice ao xb.length cap) m → W'.cell? ⟨N, 1, none⟩ = some (.int .i64 c) ∧ N < W'.heap.size) := fun W' h => ⟨h.cells.2.1, h.cells.2.2.2.2⟩
  have HFZ : Hid (Fr w0 w0 (fun _ => False)) := Fr.refl _ _
  go_region_held3 (fun W' => W'.cell? ⟨N, 1, none⟩ = some (.int .i64 c) ∧ N < W'.heap.size)
    ((refine HCL.out _ ?_; first | exact BP.out | exact BR.out | exact B0.out | exact B0.out.still HFZ.out.drew | exact B0.out.still (HFZ.out.drewN _)))
    ((first
      | (go_at_call 26; refine (HP.out _ _ (by first | exact R1.out | exact H0.out | exact H0.out.still HFZ.out.drew | exact H0.out.still (HFZ.out.drewN _))).mono ?_; rintro e wa ⟨rfl, h1, hf1⟩; have BP := hid (Bz.keep (by first | exact BR.out | exact B0.out | exact B0.out.still HFZ.out.drew | exact B0.out.still (HFZ.out.drewN _)) hf1 (Or.inl rfl)); have P1 := hid h1; clear h1 hf1)
      | (go_at_call 42; refine (HR.out _ _ (by first | exact P1.out | exact H0.out | exact H0.out.still HFZ.out.drew | exact H0.out.still (HFZ.out.drewN _))).mono ?_; rintro e wb ⟨rfl, h1, hf1⟩; have BR := hid (Bz.keep (by first | exact BP.out | exact B0.out | exact B0.out.still HFZ.out.drew | exact B0.out.still (HFZ.out.drewN _)) hf1 (Or.inl rfl)); have R1 := hid h1; clear h1 hf1)))
  all_goals
    go_wp2
    go_ret
    exact ⟨rfl, by first | exact R1.out.less (fun _ h => h.elim) | exact P1.out.less (fun _ h => h.elim)⟩
set_option maxHeartbeats 8000000 in
set_option maxRecDepth 100000 in
theorem asked8_any {w W : World} {A G : Nat} {s : Np} (h : PP w W A G s s (fun _ => False)) (c m : Int) {ao : Option Addr} {cap : Nat} {xb : List Nat} : Calls Try.prog 13 #[.pointer (some ⟨A, 0, none⟩), .pointer (some ⟨G, 0, none⟩), .agg #[.int .i64 8, .int .i64 c, .slice ao xb.length cap, .int .i64 m]] W fun e w' => e = .returned (.bool true) ∧ PP w w' A G (cutS s c) (cutS s c) (fun _ => False) := by
  have B0 := hid (Bz.new W 8 c (.slice ao xb.length cap) m)
  have H0 := hid (h.box (N := W.heap.size) (alloc_fr W (.cells #[.int .i64 8, .int .i64 c, .slice ao xb.length cap, .int .i64 m] 35) (fun _ => False)) (Nat.le_refl _) (by simp))
  obtain ⟨N, hN⟩ : ∃ N, W.heap.size = N := ⟨_, rfl⟩
  rw [hN] at B0 H0
  have HP := hid (fun W' t (h : PP w W' A G s t (fun k => k = N ∨ False)) => h.cut c)
  have HR := hid (fun W' u (h : PP w W' A G u s (fun k => k = N ∨ False)) => h.rcut c)
  have HNN := hid hN
  generalize cutE s c = E at *
  generalize cutS s c = s' at *
  clear h hN
  go_enter Try.func13, Try.ntmps13
  go_wp2_with fail
  rw [HNN.out]
  generalize W.alloc (.cells #[.int .i64 8, .int .i64 c, .slice ao xb.length cap, .int .i64 m] 35) = w0 at *
  have HCL : Hid (∀ W', Bz W' N 8 c (.slice ao xb.length cap) m → W'.cell? ⟨N, 1, none⟩ = some (.int .i64 c) ∧ N < W'.heap.size) := fun W' h => ⟨h.cells.2.1, h.cells.2.2.2.2⟩
  have HFZ : Hid (Fr w0 w0 (fun _ => False)) := Fr.refl _ _
  go_region_held3 (fun W' => W'.cell? ⟨N, 1, none⟩ = some (.int .i64 c) ∧ N < W'.heap.size)
    ((refine HCL.out _ ?_; first | exact BP.out | exact BR.out | exact B0.out | exact B0.out.still HFZ.out.drew | exact B0.out.still (HFZ.out.drewN _)))
    ((first
      | (go_at_call 27; refine (HP.out _ _ (by first | exact R1.out | exact H0.out | exact H0.out.still HFZ.out.drew | exact H0.out.still (HFZ.out.drewN _))).mono ?_; rintro e wa ⟨rfl, h1, hf1⟩; have BP := hid (Bz.keep (by first | exact BR.out | exact B0.out | exact B0.out.still HFZ.out.drew | exact B0.out.still (HFZ.out.drewN _)) hf1 (Or.inl rfl)); have P1 := hid h1; clear h1 hf1)
      | (go_at_call 43; refine (HR.out _ _ (by first | exact P1.out | exact H0.out | exact H0.out.still HFZ.out.drew | exact H0.out.still (HFZ.out.drewN _))).mono ?_; rintro e wb ⟨rfl, h1, hf1⟩; have BR := hid (Bz.keep (by first | exact BP.out | exact B0.out | exact B0.out.still HFZ.out.drew | exact B0.out.still (HFZ.out.drewN _)) hf1 (Or.inl rfl)); have R1 := hid h1; clear h1 hf1)))
  all_goals
    go_wp2
    go_ret
    exact ⟨rfl, by first | exact R1.out.less (fun _ h => h.elim) | exact P1.out.less (fun _ h => h.elim)⟩
set_option maxHeartbeats 8000000 in
set_option maxRecDepth 100000 in
theorem asked3_any {w W : World} {A G : Nat} {s : Np} (h : PP w W A G s s (fun _ => False)) (hm : s.m ≤ 70368744177664) (c m : Int) {ao : Option Addr} {cap : Nat} {xb : List Nat} : Calls Try.prog 13 #[.pointer (some ⟨A, 0, none⟩), .pointer (some ⟨G, 0, none⟩), .agg #[.int .i64 3, .int .i64 c, .slice ao xb.length cap, .int .i64 m]] W fun e w' => e = .returned (.bool true) ∧ PP w w' A G (bringS s c m) (bringS s c m) (fun _ => False) := by
  have B0 := hid (Bz.new W 3 c (.slice ao xb.length cap) m)
  have H0 := hid (h.box (N := W.heap.size) (alloc_fr W (.cells #[.int .i64 3, .int .i64 c, .slice ao xb.length cap, .int .i64 m] 35) (fun _ => False)) (Nat.le_refl _) (by simp))
  obtain ⟨N, hN⟩ : ∃ N, W.heap.size = N := ⟨_, rfl⟩
  rw [hN] at B0 H0
  have HP := hid (fun W' t (h : PP w W' A G s t (fun k => k = N ∨ False)) => h.bring hm c m)
  have HR := hid (fun W' u (h : PP w W' A G u s (fun k => k = N ∨ False)) => h.rbring hm c m)
  have HNN := hid hN
  generalize bringK s c m = K at *
  generalize findE s c = E at *
  generalize bringS s c m = s' at *
  clear h hN hm
  go_enter Try.func13, Try.ntmps13
  go_wp2_with fail
  rw [HNN.out]
  generalize W.alloc (.cells #[.int .i64 3, .int .i64 c, .slice ao xb.length cap, .int .i64 m] 35) = w0 at *
  refine (HP.out _ _ H0.out).mono ?_
  rintro e wa ⟨rfl, h1, hf1⟩
  have BP := hid (Bz.keep B0.out hf1 (Or.inl rfl))
  have P1 := hid h1
  clear h1 hf1 HP H0 B0
  obtain ⟨-, y1, -, y3, yl⟩ := BP.out.cells
  go_wp2_with fail
  refine (HR.out _ _ P1.out).mono ?_
  rintro e wb ⟨rfl, h1, hf1⟩
  have R1 := hid h1
  clear h1 hf1 HR P1 BP y1 y3 yl
  go_wp2_with fail
  go_ret
  exact ⟨rfl, R1.out.less (fun _ h => h.elim)⟩
set_option maxHeartbeats 8000000 in
set_option maxRecDepth 100000 in
theorem asked6_any {w W : World} {A G : Nat} {s : Np} (h : PP w W A G s s (fun _ => False)) (hm : s.m ≤ 70368744177664) (c m : Int) {ao : Option Addr} {cap : Nat} {xb : List Nat} : Calls Try.prog 13 #[.pointer (some ⟨A, 0, none⟩), .pointer (some ⟨G, 0, none⟩), .agg #[.int .i64 6, .int .i64 c, .slice ao xb.length cap, .int .i64 m]] W fun e w' => e = .returned (.bool true) ∧ PP w w' A G (fetchS s c m) (fetchS s c m) (fun _ => False) := by
  have B0 := hid (Bz.new W 6 c (.slice ao xb.length cap) m)
  have H0 := hid (h.box (N := W.heap.size) (alloc_fr W (.cells #[.int .i64 6, .int .i64 c, .slice ao xb.length cap, .int .i64 m] 35) (fun _ => False)) (Nat.le_refl _) (by simp))
  obtain ⟨N, hN⟩ : ∃ N, W.heap.size = N := ⟨_, rfl⟩
  rw [hN] at B0 H0
  have HP := hid (fun W' t (h : PP w W' A G s t (fun k => k = N ∨ False)) => h.fetch hm c m)
  have HR := hid (fun W' u (h : PP w W' A G u s (fun k => k = N ∨ False)) => h.rfetch hm c m)
  have HNN := hid hN
  generalize fetchK s c m = K at *
  generalize findE s c = E at *
  generalize fetchS s c m = s' at *
  clear h hN hm
  go_enter Try.func13, Try.ntmps13
  go_wp2_with fail
  rw [HNN.out]
  generalize W.alloc (.cells #[.int .i64 6, .int .i64 c, .slice ao xb.length cap, .int .i64 m] 35) = w0 at *
  refine (HP.out _ _ H0.out).mono ?_
  rintro e wa ⟨rfl, h1, hf1⟩
  have BP := hid (Bz.keep B0.out hf1 (Or.inl rfl))
  have P1 := hid h1
  clear h1 hf1 HP H0 B0
  obtain ⟨-, y1, -, y3, yl⟩ := BP.out.cells
  go_wp2_with fail
  refine (HR.out _ _ P1.out).mono ?_
  rintro e wb ⟨rfl, h1, hf1⟩
  have R1 := hid h1
  clear h1 hf1 HR P1 BP y1 y3 yl
  go_wp2_with fail
  go_ret
  exact ⟨rfl, R1.out.less (fun _ h => h.elim)⟩
set_option maxHeartbeats 8000000 in
set_option maxRecDepth 100000 in
theorem asked4_any {w W : World} {A G : Nat} {s : Np} (h : PP w W A G s s (fun _ => False)) (c m : Int) {ao : Option Addr} {cap : Nat} {xb : List Nat} : Calls Try.prog 13 #[.pointer (some ⟨A, 0, none⟩), .pointer (some ⟨G, 0, none⟩), .agg #[.int .i64 4, .int .i64 c, .slice ao xb.length cap, .int .i64 m]] W fun e w' => e = .returned (.bool true) ∧ PP w w' A G (takeS s c) (takeS s c) (fun _ => False) := by
  have B0 := hid (Bz.new W 4 c (.slice ao xb.length cap) m)
  have H0 := hid (h.box (N := W.heap.size) (alloc_fr W (.cells #[.int .i64 4, .int .i64 c, .slice ao xb.length cap, .int .i64 m] 35) (fun _ => False)) (Nat.le_refl _) (by simp))
  obtain ⟨N, hN⟩ : ∃ N, W.heap.size = N := ⟨_, rfl⟩
  rw [hN] at B0 H0
  have HP := hid (fun W' t (h : PP w W' A G s t (fun k => k = N ∨ False)) => h.take c)
  have HR := hid (fun W' u S (h : PP w W' A G u s S) => h.rtake c)
  have HNN := hid hN
  generalize takeB s c = TB at *
  generalize useE s c = E at *
  generalize takeS s c = s' at *
  clear h hN
  go_enter Try.func13, Try.ntmps13
  go_wp2_with fail
  rw [HNN.out]
  generalize W.alloc (.cells #[.int .i64 4, .int .i64 c, .slice ao xb.length cap, .int .i64 m] 35) = w0 at *
  refine (HP.out _ _ H0.out).mono ?_
  rintro e wa ⟨v1, rfl, hv1, h1, hf1⟩
  have BP := hid (Bz.keep B0.out hf1 (Or.inl rfl))
  have P1 := hid h1
  have HV1 := hid hv1
  clear h1 hf1 hv1 HP H0 B0
  obtain ⟨-, y1, -, y3, yl⟩ := BP.out.cells
  go_wp2_with fail
  refine (HR.out _ _ _ P1.out).mono ?_
  rintro e wb ⟨v2, rfl, hv2, h1, hf1⟩
  have R1 := hid h1
  have hc1 := conv8 (HV1.out.fr hf1 (fun k hk h => h (Or.inl hk)))
  have hc2 := conv8 hv2
  clear h1 hf1 hv2 HR P1 BP y1 y3 yl HV1
  generalize str8 TB = SZ at *
  go_wp2_with fail
  go_ret
  exact ⟨rfl, R1.out.less (fun _ h => h.elim)⟩
set_option maxHeartbeats 8000000 in
set_option maxRecDepth 100000 in
theorem asked5_any {w W : World} {A G : Nat} {s : Np} (h : PP w W A G s s (fun _ => False)) (c m : Int) {ao : Option Addr} {cap : Nat} {xb : List Nat} (hb : BsC w (.slice ao xb.length cap) xb) : Calls Try.prog 13 #[.pointer (some ⟨A, 0, none⟩), .pointer (some ⟨G, 0, none⟩), .agg #[.int .i64 5, .int .i64 c, .slice ao xb.length cap, .int .i64 m]] W fun e w' => e = .returned (.bool true) ∧ PP w w' A G (writeS s c xb) (writeS s c xb) (fun _ => False) := by
  have B0 := hid (Bz.new W 5 c (.slice ao xb.length cap) m)
  have H0 := hid (h.box (N := W.heap.size) (alloc_fr W (.cells #[.int .i64 5, .int .i64 c, .slice ao xb.length cap, .int .i64 m] 35) (fun _ => False)) (Nat.le_refl _) (by simp))
  obtain ⟨N, hN⟩ : ∃ N, W.heap.size = N := ⟨_, rfl⟩
  rw [hN] at B0 H0
  have HP := hid (fun W' t S (h : PP w W' A G s t S) {zo : Option Addr} {zc : Nat} (hz : Bs W' (.slice zo xb.length zc) xb) (hzc : xb.length ≤ zc) => h.write c rfl hz hzc)
  have HR := hid (fun W' u S (h : PP w W' A G u s S) {zo : Option Addr} {zc : Nat} (hz : Bs W' (.slice zo xb.length zc) xb) (hzc : xb.length ≤ zc) (hz2 : xb.length ≤ 140737488355328) => h.rwrite c rfl hz hzc hz2)
  have HNN := hid hN
  have HBB := hid hb
  obtain ⟨_, _, hq3, hq4, hq5, _, _⟩ := hb
  simp only [Value.slice.injEq] at hq3
  obtain ⟨-, -, rfl⟩ := hq3
  have HLE := hid (fun W (hf : Fr w W (fun _ => False)) => (lend_any (.slice ao xb.length cap) xb W (by obtain ⟨_, _, _, _, _, h, _⟩ := HBB.out.lo9 hf; exact h) hq5))
  have HBK := hid (fun W L (hr : Row8 W L (xb ++ List.replicate 9 169)) (hf : Fr w W (fun _ => False)) => back_any L (.slice ao xb.length cap) xb W hr (by obtain ⟨_, _, _, _, _, h, _⟩ := HBB.out.lo9 hf; exact h) hq5)
  have HX := hid (And.intro hq4 hq5)
  generalize writeK s c xb.length = K at *
  generalize useE s c = E at *
  generalize writeS s c xb = s' at *
  clear h hN hq4 hq5
  go_enter Try.func13, Try.ntmps13
  go_wp2_with fail
  rw [HNN.out]
  generalize W.alloc (.cells #[.int .i64 5, .int .i64 c, .slice ao xb.length cap, .int .i64 m] 35) = w0 at *
  refine (HLE.out _ H0.out.fr).mono ?_
  rintro e wl ⟨rfl, h1, h2⟩
  have BL := hid (B0.out.still h2)
  have HL := hid h1
  have H1 := hid (H0.out.box (N := w0.heap.size) h2 (Nat.le_refl _) h1.lt)
  have HW0 : Hid (w.heap.size ≤ w0.heap.size) := H0.out.fr.size
  clear h1 h2 H0 B0 HLE
  generalize w0.heap.size = L at *
  obtain ⟨-, y1, y2, -, yl⟩ := BL.out.cells
  go_wp2_with fail
  refine (HP.out _ _ _ H1.out (HL.out.bs (cap := xb.length + 9)) (by omega)).mono ?_
  rintro e wa ⟨rfl, h1, hf1⟩
  have BP := hid (Bz.keep BL.out hf1 (Or.inr (Or.inl rfl)))
  have HL2 := hid (HL.out.fr hf1 (fun h => h (Or.inl rfl)))
  have P1 := hid h1
  clear h1 hf1 HP H1 BL HL y1 y2 yl
  obtain ⟨-, y1, y2, -, yl⟩ := BP.out.cells
  go_wp2_with fail
  refine (HR.out _ _ _ P1.out (by obtain ⟨_, _, _, _, _, h, _⟩ := HBB.out.lo9 P1.out.fr; exact h) HX.out.1 HX.out.2).mono ?_
  rintro e wb ⟨rfl, h1, hf1⟩
  have BR := hid (Bz.keep BP.out hf1 (Or.inr (Or.inl rfl)))
  have HL3 := hid (HL2.out.fr hf1 (fun h => h (Or.inl rfl)))
  have R1 := hid h1
  clear h1 hf1 HR P1 BP HL2 y1 y2 yl
  obtain ⟨-, y1, y2, -, yl⟩ := BR.out.cells
  go_wp2_with fail
  refine (HBK.out _ _ HL3.out R1.out.fr).mono ?_
  rintro e wz ⟨rfl, hf1⟩
  have HZ := hid ((R1.out.own hf1 (fun k hk => ⟨Or.inl hk, by rw [hk]; exact HW0.out⟩)).less (T := fun _ => False) (fun _ h => h.elim))
  clear hf1 R1 BR HL3 HBK y1 y2 yl
  go_wp2_with fail
  go_ret
  exact ⟨rfl, HZ.out⟩
set_option maxHeartbeats 8000000 in
set_option maxRecDepth 100000 in
theorem asked2_any {w W : World} {A G : Nat} {s : Np} (h : PP w W A G s s (fun _ => False)) (c m : Int) {ao : Option Addr} {cap : Nat} {xb : List Nat} (hb : BsC w (.slice ao xb.length cap) xb) : Calls Try.prog 13 #[.pointer (some ⟨A, 0, none⟩), .pointer (some ⟨G, 0, none⟩), .agg #[.int .i64 2, .int .i64 c, .slice ao xb.length cap, .int .i64 m]] W fun e w' => e = .returned (.bool true) ∧ PP w w' A G (sendS s c xb) (sendS s c xb) (fun _ => False) := by
  have B0 := hid (Bz.new W 2 c (.slice ao xb.length cap) m)
  have H0 := hid (h.box (N := W.heap.size) (alloc_fr W (.cells #[.int .i64 2, .int .i64 c, .slice ao xb.length cap, .int .i64 m] 35) (fun _ => False)) (Nat.le_refl _) (by simp))
  obtain ⟨N, hN⟩ : ∃ N, W.heap.size = N := ⟨_, rfl⟩
  rw [hN] at B0 H0
  have HNN := hid hN
  have HBB := hid hb
  obtain ⟨_, _, hq3, hq4, hq5, _, _⟩ := hb
  simp only [Value.slice.injEq] at hq3
  obtain ⟨-, -, rfl⟩ := hq3
  have HLE := hid (fun W (hf : Fr w W (fun _ => False)) => (lend_any (.slice ao xb.length cap) xb W (by obtain ⟨_, _, _, _, _, h, _⟩ := HBB.out.lo9 hf; exact h) hq5))
  have HBK := hid (fun W L (hr : Row8 W L (xb ++ List.replicate 9 169)) (hf : Fr w W (fun _ => False)) => back_any L (.slice ao xb.length cap) xb W hr (by obtain ⟨_, _, _, _, _, h, _⟩ := HBB.out.lo9 hf; exact h) hq5)
  have HP := hid (fun W' t L S (h : PP w W' A G s t S) (hz : Row8 W' L (xb ++ List.replicate 9 169)) => h.send c rfl (hz.bs (cap := xb.length + 9)) (by omega))
  have HR := hid (fun W' u S (h : PP w W' A G u s S) => h.rsend c (zs := xb) (zcap := cap) (ao := ao) rfl (by obtain ⟨_, _, _, _, _, h, _⟩ := HBB.out.lo9 h.fr; exact h) hq5)
  generalize sendE s c xb = E at *
  generalize sendS s c xb = s' at *
  clear h hN hq4 hq5
  go_enter Try.func13, Try.ntmps13
  go_wp2_with fail
  rw [HNN.out]
  generalize W.alloc (.cells #[.int .i64 2, .int .i64 c, .slice ao xb.length cap, .int .i64 m] 35) = w0 at *
  refine (HLE.out _ H0.out.fr).mono ?_
  rintro e wl ⟨rfl, h1, h2⟩
  have BL := hid (B0.out.still h2)
  have HL := hid h1
  have H1 := hid (H0.out.box (N := w0.heap.size) h2 (Nat.le_refl _) h1.lt)
  have HW0 : Hid (w.heap.size ≤ w0.heap.size) := H0.out.fr.size
  have HNE : Hid (N ≠ w0.heap.size) := by have := B0.out.cells.2.2.2.2; show _ ≠ _; omega
  clear h1 h2 H0 B0 HLE
  generalize w0.heap.size = L at *
  go_wp2_with fail
  have HCL : Hid (∀ W', Bz W' N 2 c (.slice ao xb.length cap) m → W'.cell? ⟨N, 1, none⟩ = some (.int .i64 c) ∧ W'.cell? ⟨N, 2, none⟩ = some (.slice ao xb.length cap) ∧ N < W'.heap.size) := fun W' h => ⟨h.cells.2.1, h.cells.2.2.1, h.cells.2.2.2.2⟩
  have HFZ : Hid (Fr wl wl (fun _ => False)) := Fr.refl _ _
  go_region_held3 (fun W' => W'.cell? ⟨N, 1, none⟩ = some (.int .i64 c) ∧ W'.cell? ⟨N, 2, none⟩ = some (.slice ao xb.length cap) ∧ N < W'.heap.size)
    ((refine HCL.out _ ?_; first | exact BZ.out | exact BP.out | exact BR.out | exact BL.out | exact BL.out.still HFZ.out.drew | exact BL.out.still (HFZ.out.drewN _)))
    ((first
      | (go_at_call 17; refine (HP.out _ _ L _ (by first | exact R1.out | exact H1.out | exact H1.out.still HFZ.out.drew | exact H1.out.still (HFZ.out.drewN _)) (by first | exact LR.out | exact HL.out | exact HL.out.fr HFZ.out.drew (fun h => h) | exact HL.out.fr (HFZ.out.drewN _) (fun h => h))).mono ?_; rintro e wa ⟨rfl, h1, hf1⟩; have BP := hid (Bz.keep (by first | exact BR.out | exact BL.out | exact BL.out.still HFZ.out.drew | exact BL.out.still (HFZ.out.drewN _)) hf1 (Or.inr (Or.inl rfl))); have LP := hid (Row8.fr (by first | exact LR.out | exact HL.out | exact HL.out.fr HFZ.out.drew (fun h => h) | exact HL.out.fr (HFZ.out.drewN _) (fun h => h)) hf1 (fun h => h (Or.inl rfl))); have P1 := hid h1; clear h1 hf1)
      | (go_at_call 36; refine (HR.out _ _ _ (by first | exact P1.out | exact H1.out | exact H1.out.still HFZ.out.drew | exact H1.out.still (HFZ.out.drewN _))).mono ?_; rintro e wb ⟨rfl, h1, hf1⟩; have BR := hid (Bz.keep (by first | exact BP.out | exact BL.out | exact BL.out.still HFZ.out.drew | exact BL.out.still (HFZ.out.drewN _)) hf1 (Or.inr (Or.inl rfl))); have LR := hid (Row8.fr (by first | exact LP.out | exact HL.out | exact HL.out.fr HFZ.out.drew (fun h => h) | exact HL.out.fr (HFZ.out.drewN _) (fun h => h)) hf1 (fun h => h (Or.inl rfl))); have R1 := hid h1; clear h1 hf1)
      | (go_at_call 37; refine (HBK.out _ _ (by first | exact LR.out | exact LP.out) (by first | exact R1.out.fr | exact P1.out.fr)).mono ?_; rintro e wz ⟨rfl, hf1⟩; have BZ := hid (Bz.fr (by first | exact BR.out | exact BP.out) hf1 HNE.out); have HZ : Hid (PP w wz A G s' s' (fun _ => False)) := by first | exact (R1.out.own hf1 (fun k hk => ⟨Or.inl hk, by rw [hk]; exact HW0.out⟩)).less (fun _ h => h.elim) | exact (P1.out.own hf1 (fun k hk => ⟨Or.inl hk, by rw [hk]; exact HW0.out⟩)).less (fun _ h => h.elim); clear hf1)))
  all_goals
    go_wp2
    go_ret
    exact ⟨rfl, HZ.out⟩
set_option maxHeartbeats 8000000 in
set_option maxRecDepth 100000 in
theorem asked0_any {w W : World} {A G : Nat} {s : Np} (h : PP w W A G s s (fun _ => False)) (k c m : Int) (v : Value) (h1 : k ≠ 1) (h2 : k ≠ 2) (h3 : k ≠ 3) (h4 : k ≠ 4) (h5 : k ≠ 5) (h6 : k ≠ 6) (h7 : k ≠ 7) (h8 : k ≠ 8) : Calls Try.prog 13 #[.pointer (some ⟨A, 0, none⟩), .pointer (some ⟨G, 0, none⟩), .agg #[.int .i64 k, .int .i64 c, v, .int .i64 m]] W fun e w' => e = .returned (.bool true) ∧ PP w w' A G s s (fun _ => False) := by
  have H0 := hid (h.still (alloc_fr W (.cells #[.int .i64 k, .int .i64 c, v, .int .i64 m] 35) (fun _ => False)))
  clear h
  go_enter Try.func13, Try.ntmps13
  go_wp2_with fail
  go_ret
  exact ⟨rfl, H0.out⟩
theorem askd_any {w W : World} {A G : Nat} {s : Np} (h : PP w W A G s s (fun _ => False)) (hm : s.m ≤ 70368744177664) (x : Sp) {ao : Option Addr} {cap : Nat} (hb : BsC w (.slice ao x.b.length cap) x.b) : Calls Try.prog 13 #[.pointer (some ⟨A, 0, none⟩), .pointer (some ⟨G, 0, none⟩), .agg #[.int .i64 x.k, .int .i64 x.c, .slice ao x.b.length cap, .int .i64 x.m]] W fun e w' => e = .returned (.bool true) ∧ PP w w' A G (plS s x) (plS s x) (fun _ => False) := by
  obtain ⟨k, c, xb, m⟩ := x
  dsimp only at hb ⊢
  by_cases h1 : k = 1
  · subst h1; exact asked1_any h c m
  by_cases h2 : k = 2
  · subst h2; exact asked2_any h c m hb
  by_cases h3 : k = 3
  · subst h3; exact asked3_any h hm c m
  by_cases h4 : k = 4
  · subst h4; exact asked4_any h c m
  by_cases h5 : k = 5
  · subst h5; exact asked5_any h c m hb
  by_cases h6 : k = 6
  · subst h6; exact asked6_any h hm c m
  by_cases h7 : k = 7
  · subst h7; exact asked7_any h c m
  by_cases h8 : k = 8
  · subst h8; exact asked8_any h c m
  have e : plS s ⟨k, c, xb, m⟩ = s := by unfold plS; simp [h1, h2, h3, h4, h5, h6, h7, h8]
  rw [e]
  exact asked0_any h k c m _ h1 h2 h3 h4 h5 h6 h7 h8
end Go.Proofs.Ytljkbnjdciljfaa
