/- The laws' known: the walk. -/
import Derived.Test.YtbhhpkbiflolfaaVSame
namespace Go.Proofs.Ytbhhpkbiflolfaa.V
open Go.RowKit Go.Maps
open M (Cl cmpC vC)

/-- An operator's blocks are behind a world. -/
def Beh (n : Nat) (x : Ox) : Prop := n ≤ x.B ∧ n ≤ x.mb ∧ n ≤ x.Bm ∧ n ≤ x.gm ∧ n ≤ x.gv
theorem vsE_lit (w : World) : Vs (w.alloc (.cells #[.int .i64 10, .int .i64 10, .int .i64 0, .int .i64 10, .int .i64 5, .int .i64 3] 49)) (.slice (some ⟨w.heap.size, 0, none⟩) 2 2) vsE := by
  have h := heap_last w (.cells #[.int .i64 10, .int .i64 10, .int .i64 0, .int .i64 10, .int .i64 5, .int .i64 3] 49) _ rfl
  refine ⟨_, _, rfl, by decide, fun _ => ⟨w.heap.size, 0, rfl, fun i hi => ?_⟩⟩
  match i, hi with
  | 0, _ => refine ⟨?_, ?_, ?_⟩ <;> (rw [cell_of_row _ _ _ _ _ (0, 0) h]; rfl)
  | 1, _ => refine ⟨?_, ?_, ?_⟩ <;> (rw [cell_of_row _ _ _ _ _ (0, 0) h]; rfl)
theorem oneE_lit (w : World) : Ks (w.alloc (.cells #[.int .i64 1, .string ⟨#[107]⟩, .int .i64 5] 64)) (.slice (some ⟨w.heap.size, 0, none⟩) 1 1) [⟨1, kE, 5⟩] := by
  have h := heap_last w (.cells #[.int .i64 1, .string ⟨#[107]⟩, .int .i64 5] 64) _ rfl
  refine ⟨_, _, rfl, by decide, fun _ => ⟨w.heap.size, 0, rfl, fun i hi => ?_⟩⟩
  match i, hi with
  | 0, _ => refine ⟨?_, ?_, ?_⟩ <;> (rw [cell_of_row _ _ _ _ _ (0, 0) h]; rfl)
theorem fr_behind {w w1 w2 : World} {S : Nat → Prop} (h : Fr w w1 (fun _ => False)) (hf : Fr w1 w2 S) (hS : ∀ k, S k → w.heap.size ≤ k) : Fr w w2 (fun _ => False) := h.trans2 hf (fun i hi e => by have := hS i e; omega)

set_option maxHeartbeats 2000000 in
set_option maxRecDepth 100000 in
theorem known_any (w : World) : Calls Try.prog 9 #[] w fun e w' => e = .returned (.bool true) ∧ Fr w w' (fun _ => False) := by
  obtain ⟨r1, t1, t2, m1, m2, m3, m4, l1, l2, l3⟩ := exE
  obtain ⟨k1, k2, k3, k4, k5⟩ := exE3
  have HN := hid (fun W : World => onew_ok (vsE_lit W) r1 (n := 1) (by decide) (by decide))
  have E1 := hid (And.intro t1 (And.intro t2 exE2))
  have E2 := hid (And.intro m1 (And.intro m2 (And.intro m3 m4)))
  have E3 := hid (And.intro l1 (And.intro l2 l3))
  have E4 := hid (And.intro k1 (And.intro k2 (And.intro k3 (And.intro k4 k5))))
  clear r1 t1 t2 m1 m2 m3 m4 l1 l2 l3 k1 k2 k3 k4 k5
  have hrep : List.replicate 1 noM = [noM] := rfl
  go_enter Try.func9, Try.ntmps9
  go_wp2_with fail
  refine (HN.out w).mono ?_
  rintro e w1 ⟨x, rfl, hop, hbe, hf⟩
  rw [hrep] at hop
  have HOP := hid hop
  have HBE := hid (show w.heap.size ≤ x.B ∧ w.heap.size ≤ x.mb ∧ w.heap.size ≤ x.Bm ∧ w.heap.size ≤ x.gm ∧ w.heap.size ≤ x.gv by simp at hbe; omega)
  have HF1 := hid ((alloc_fr w (.cells #[.int .i64 10, .int .i64 10, .int .i64 0, .int .i64 10, .int .i64 5, .int .i64 3] 49) (fun _ => False)).trans hf)
  clear hop hbe hf HN hrep
  go_wp2_with fail
  have HT := hid (take_any HOP.out kE 12)
  rw [E3.out.1, E1.out.1, E1.out.2.1, E1.out.2.2] at HT
  refine HT.out.mono ?_
  rintro e w2 ⟨u, rfl, hko, hf⟩
  obtain ⟨ao, rfl⟩ := hko.shape
  have HKS := hid (hko.ks (by decide))
  have HOP2 := hid (HOP.out.step hf)
  have HF2 := hid (HF1.out.trans hf)
  clear hko hf HT HOP HF1
  go_wp2_with fail
  have HW := hid (wrote_any HOP2.out HKS.out (by decide))
  rw [E3.out.1, E4.out.1] at HW
  refine HW.out.mono ?_
  rintro e w3 ⟨rfl, hop3, hf⟩
  have HOP3 : Hid (Op w3 x vsE [noM] liE) := by
    have e : wroteL vsE noM liE [] = liE := by unfold wroteL; rw [E4.out.1, if_pos rfl, E4.out.2.1]
    rw [e] at hop3
    exact hop3
  have HF3 := hid (fr_behind HF2.out hf (fun k e => by have := HBE.out; omega))
  clear hop3 hf HW HOP2 HF2 HKS
  go_wp2_with fail
  have HM := hid (mark_any HOP3.out (by decide) 0 15)
  rw [E2.out.1, E2.out.2.1] at HM
  refine HM.out.mono ?_
  rintro e w4 ⟨u4, rfl, hk4, hop4, hf⟩
  rw [E3.out.2.1, E4.out.2.2.1] at hk4
  rw [E3.out.2.1, E4.out.2.2.2.1] at hop4
  have HOP4 := hid hop4
  have HF4 := hid (fr_behind HF3.out hf (fun k e => by have := HBE.out; omega))
  obtain ⟨ao4, cap4, rfl⟩ := hk4.shape
  clear hk4 hop4 hf HM HOP3 HF3
  go_wp2_with fail
  have HM := hid (mark_any HOP4.out (by decide) 0 18)
  rw [E2.out.2.2.1, E2.out.2.2.2] at HM
  refine HM.out.mono ?_
  rintro e w5 ⟨u5, rfl, hk5, hop5, hf⟩
  rw [E3.out.2.2, E4.out.2.2.2.2] at hk5
  have HOP5 := hid hop5
  have HF5 := hid (fr_behind HF4.out hf (fun k e => by have := HBE.out; omega))
  have HK5 := hid (hk5.ks (by decide))
  obtain ⟨ao5, cap5, rfl⟩ := hk5.shape
  clear hk5 hop5 hf HM HOP4 HF4
  go_wp2_with fail
  refine (ksame_true (HK5.out.step (alloc_fr _ _ _)) (oneE_lit w5)).mono ?_
  rintro e w6 ⟨rfl, hf⟩
  have HF6 := hid ((alloc_fr w5 (.cells #[.int .i64 1, .string ⟨#[107]⟩, .int .i64 5] 64) (fun _ => False)).trans hf)
  clear hf
  go_wp2_with fail
  have HL := hid (oleast_any (HOP5.out.step HF6.out))
  rw [E3.out.2.2] at HL
  refine HL.out.mono ?_
  rintro e w7 ⟨rfl, hf⟩
  have HF7 := hid ((HF5.out.trans HF6.out).trans hf)
  clear hf
  go_wp2_with fail
  go_ret
  exact ⟨rfl, HF7.out⟩
end Go.Proofs.Ytbhhpkbiflolfaa.V
