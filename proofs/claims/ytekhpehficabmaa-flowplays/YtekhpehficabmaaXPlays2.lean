/- FlowPlays: told of a Put. -/
import Derived.Test.YtekhpehficabmaaXPlays2H
namespace Go.Proofs.Ytekhpehficabmaa
open Go.RowKit

set_option maxHeartbeats 8000000 in
theorem told_put {w W : World} {B R box : Nat} {s : Ps} (h : PL w W B R box s s []) (hv : Inv s) (A : Int) (x : It) : Calls Try.prog 11 #[.pointer (some ⟨B, 0, none⟩), .pointer (some ⟨R, 0, none⟩), vSp ⟨1, A, x⟩] W fun e w' => e = .returned (.bool true) ∧ ToldR w w' B R box := by
  have H2 := hid (h.beside (spo ⟨1, A, x⟩))
  have hw := h.wf
  have HFR : Hid (∀ w', PL w w' B R box (putS s A x) (putS s A x) [(W.heap.size, spo ⟨1, A, x⟩)] → ToldR w w' B R box) := fun w' h1 => ⟨_, h1.forget, hv.put A x⟩
  have HRP := hid (fun (X : World) (t : Ps) (h : PL w X B R box t s [(W.heap.size, spo ⟨1, A, x⟩)]) => h.rput hw A x)
  have HFP := hid (fun (X : World) (t : Ps) (h : PL w X B R box s t [(W.heap.size, spo ⟨1, A, x⟩)]) => h.fput A x)
  clear h hw hv
  unfold vSp
  simp only
  generalize putE s A x = pe at *
  generalize putS s A x = s2 at *
  go_enter Try.func11, Try.ntmps11
  go_upto_region 1 with fail
  unfold spo at H2
  generalize (W.alloc (.cells _ 35)) = W2 at *
  generalize W.heap.size = N at *
  replace H2 : Hid (PL w W2 B R box s s [(N, spo ⟨1, A, x⟩)]) := H2
  obtain ⟨q0, q1, q2, q3, q4, q5, hNl⟩ := H2.out.cells
  have HCE := hid (fun (X : World) (s' t' : Ps) (h : PL w X B R box s' t' [(N, spo ⟨1, A, x⟩)]) => h.cells)
  unfold vI at HRP HFP
  go_wp2_with fail
  have HP := H2
  clear H2
  go_region_with (first | (go_at_call 16; refine (HFP.out _ _ (by first | exact HP.out | exact HP.out.drew)).mono ?_; rintro e w3 ⟨rfl, h3⟩; (have HP3 := hid h3); clear h3 HP; (have HP := HP3); clear HP3; obtain ⟨y0, y1, y2, y3, y4, y5, y6⟩ := HCE.out _ _ _ HP.out) | (go_at_call 25; refine (HRP.out _ _ (by first | exact HP.out | exact HP.out.drew)).mono ?_; rintro e w3 ⟨rfl, h3⟩; (have HP3 := hid h3); clear h3 HP; (have HP := HP3); clear HP3; obtain ⟨y0, y1, y2, y3, y4, y5, y6⟩ := HCE.out _ _ _ HP.out))
  all_goals
    go_wp2_with fail
    try rw [Exit.noGoto_ret]
    go_ret
    exact ⟨by first | rfl | (simp; done) | (congr 1; simp; done), HFR.out _ HP.out⟩
end Go.Proofs.Ytekhpehficabmaa
