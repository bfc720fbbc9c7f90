/- FlowPlays: told of the others. -/
import Derived.Test.YtekhpehficabmaaXPlays2H
namespace Go.Proofs.Ytekhpehficabmaa
open Go.RowKit

theorem PL.blk {w W : World} {B R box : Nat} {s t : Ps} {P : List (Nat × Obj)} (h : PL w W B R box s t P) {p : Nat × Obj} (hp : p ∈ P) : W.heap[p.1]? = some p.2 := by
  obtain ⟨O, g, _, _, _, _, _, h6⟩ := h
  exact (h6 p hp).1
theorem spo_cells {W : World} {N : Nat} {st : Sp} (h : W.heap[N]? = some (spo st)) : W.cell? ⟨N, 0, none⟩ = some (.int .i64 st.k) ∧ W.cell? ⟨N, 1, none⟩ = some (.int .i64 st.a) ∧ N < W.heap.size := by
  have hc : W.heap[N]? = some (.cells #[.int .i64 st.k, .int .i64 st.a, .bool st.x.m, .string st.x.k, .int .i64 st.x.t, .int .i64 st.x.v] 35 (0, 0)) := h
  refine ⟨?_, ?_, lt_of_block hc⟩ <;> simp [World.cell?, hc]
set_option maxHeartbeats 8000000 in
theorem told_rest {w W : World} {B R box : Nat} {s : Ps} (h : PL w W B R box s s []) (hv : Inv s) (kd A : Int) (x : It) (k1 : kd ≠ 1) : Calls Try.prog 11 #[.pointer (some ⟨B, 0, none⟩), .pointer (some ⟨R, 0, none⟩), vSp ⟨kd, A, x⟩] W fun e w' => e = .returned (.bool true) ∧ ToldR w w' B R box := by
  have H2 := hid (h.beside (spo ⟨kd, A, x⟩))
  have hw := h.wf
  have HFR : Hid (∀ w' s' P, PL w w' B R box s' s' P → Inv s' → ToldR w w' B R box) := fun w' s' P h1 h2 => ⟨s', h1.forget, h2⟩
  have HI2 := hid (hv.pass box A)
  have HI3 := hid (hv.take A)
  have HI := hid hv
  have HRA := hid (fun (X : World) (t : Ps) (h : PL w X B R box t s [(W.heap.size, spo ⟨kd, A, x⟩)]) => h.rpass hw hv A)
  have HRT := hid (fun (X : World) (t : Ps) (P : List (Nat × Obj)) (h : PL w X B R box t s P) => h.rtake hw A)
  have HRO := hid (fun (X : World) (t : Ps) (h : PL w X B R box t s [(W.heap.size, spo ⟨kd, A, x⟩)]) => h.rtoward hw A)
  have HFA := hid (fun (X : World) (t : Ps) (h : PL w X B R box s t [(W.heap.size, spo ⟨kd, A, x⟩)]) => h.fpass A)
  have HFT := hid (fun (X : World) (t : Ps) (h : PL w X B R box s t [(W.heap.size, spo ⟨kd, A, x⟩)]) => h.ftake A)
  have HFO := hid (fun (X : World) (t : Ps) (h : PL w X B R box s t [(W.heap.size, spo ⟨kd, A, x⟩)]) => h.ftoward A)
  clear h hw hv
  unfold vSp
  simp only
  have z1 : (kd == 1) = false := by simpa using k1
  have z1' : ((1 : Int) == kd) = false := by simp; omega
  go_enter Try.func11, Try.ntmps11
  go_upto_region 1 with fail
  unfold spo at H2
  generalize (W.alloc (.cells _ 35)) = W2 at *
  generalize W.heap.size = N at *
  replace H2 : Hid (PL w W2 B R box s s [(N, spo ⟨kd, A, x⟩)]) := H2
  obtain ⟨q0, q1, q2, q3, q4, q5, hNl⟩ := H2.out.cells
  by_cases k2 : kd = 2
  · subst k2
    generalize (pasR s box A).1 = ja at *
    generalize (pasR s box A).2 = jb at *
    clear HRT HRO HFT HFO HI3 z1 z1'
    go_wp2_with fail
    refine (HFA.out _ _ H2.out).mono ?_
    rintro e w3 ⟨rfl, h3⟩
    have H3 := hid h3
    clear h3 q0 q1 q2 q3 q4 q5 hNl H2
    obtain ⟨q0, q1, q2, q3, q4, q5, hNl⟩ := H3.out.cells
    go_wp2_with fail
    refine (HRA.out _ _ H3.out).mono ?_
    rintro e w4 ⟨rfl, h3⟩
    have H4 := hid h3
    clear h3 q0 q1 q2 q3 q4 q5 hNl H3
    go_wp2_with fail
    try rw [Exit.noGoto_ret]
    go_ret
    exact ⟨by first | rfl | (simp; done), HFR.out _ _ _ H4.out HI2.out⟩
  · by_cases k3 : kd = 3
    · subst k3
      clear HRA HRO HFA HFO HI2 z1 z1'
      generalize (takR s A).2 = te at *
      generalize (takR s A).1 = mm at *
      obtain ⟨ms, mx⟩ := mm
      simp only at HFT HRT
      go_wp2_with fail
      refine (HFT.out _ _ H2.out).mono ?_
      rintro e w3 ⟨rfl, h3⟩
      have H3 := hid (h3.beside (.cells (elI mx).toArray 33 (0, 0)))
      clear h3 q0 q1 q2 q3 q4 q5 hNl H2
      unfold vI
      go_upto_region 10 with fail
      unfold elI at H3
      generalize (w3.alloc (.cells _ 33)) = W3 at *
      generalize w3.heap.size = M1 at *
      obtain ⟨q0, q1, hNl⟩ := spo_cells (H3.out.blk (p := (N, spo ⟨3, A, x⟩)) (by simp))
      go_wp2_with fail
      refine (HRT.out _ _ _ H3.out).mono ?_
      rintro e w4 ⟨rfl, h3⟩
      have H4 := hid (h3.beside (.cells (elI mx).toArray 33 (0, 0)))
      clear h3 q0 q1 hNl H3
      unfold vI
      go_upto_region 11 with fail
      unfold elI at H4
      generalize (w4.alloc (.cells _ 33)) = W4 at *
      generalize w4.heap.size = M2 at *
      have b2 := H4.out.blk (p := (M2, .cells #[.bool mx.m, .string mx.k, .int .i64 mx.t, .int .i64 mx.v] 33 (0, 0))) (by simp)
      have b1 := H4.out.blk (p := (M1, .cells #[.bool mx.m, .string mx.k, .int .i64 mx.t, .int .i64 mx.v] 33 (0, 0))) (by simp)
      obtain ⟨i0, i1, i2, i3⟩ := RI.el_cells (x := mx) b1
      obtain ⟨j0, j1, j2, j3⟩ := RI.el_cells (x := mx) b2
      have l1 := lt_of_block b1
      have l2 := lt_of_block b2
      clear b1 b2
      go_wp2_with fail
      try rw [Exit.noGoto_ret]
      go_ret
      exact ⟨by first | rfl | (simp; done), HFR.out _ _ _ H4.out HI3.out⟩
    · by_cases k4 : kd = 4
      · subst k4
        clear HRA HRT HFA HFT HI2 HI3 z1 z1'
        generalize (firR s A).1 = ja at *
        generalize (firR s A).2.2 = jb at *
        go_wp2_with fail
        refine (HFO.out _ _ H2.out).mono ?_
        rintro e w3 ⟨rfl, h3⟩
        have H3 := hid h3
        clear h3 q0 q1 q2 q3 q4 q5 hNl H2
        obtain ⟨q0, q1, q2, q3, q4, q5, hNl⟩ := H3.out.cells
        go_wp2_with fail
        refine (HRO.out _ _ H3.out).mono ?_
        rintro e w4 ⟨rfl, h3⟩
        have H4 := hid h3
        clear h3 q0 q1 q2 q3 q4 q5 hNl H3
        go_wp2_with fail
        try rw [Exit.noGoto_ret]
        go_ret
        exact ⟨by first | rfl | (simp; done), HFR.out _ _ _ H4.out HI.out⟩
      · have z2 : (kd == 2) = false := by simpa using k2
        have z3 : (kd == 3) = false := by simpa using k3
        have z4 : (kd == 4) = false := by simpa using k4
        go_wp2_with fail
        try rw [Exit.noGoto_ret]
        go_ret
        exact ⟨rfl, HFR.out _ _ _ H2.out HI.out⟩
end Go.Proofs.Ytekhpehficabmaa
