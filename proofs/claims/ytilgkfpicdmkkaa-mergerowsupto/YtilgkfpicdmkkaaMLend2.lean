/- The laws' LendResponse: its walk. -/
import Derived.Test.YtilgkfpicdmkkaaMLend
namespace Go.Proofs.Ytilgkfpicdmkkaa.M
open Go.RowKit

theorem cells11 {w : World} {N : Nat} {v : Value} {t : TypeId} (h : w.heap[N]? = some (.cells (rs11 v) t (0, 0))) : (w.cell? ⟨N, 0, none⟩ = some (.int .i64 0) ∧ w.cell? ⟨N, 1, none⟩ = some (.int .i64 0) ∧ w.cell? ⟨N, 2, none⟩ = some (.int .i64 0) ∧ w.cell? ⟨N, 3, none⟩ = some (.int .i64 0) ∧ w.cell? ⟨N, 4, none⟩ = some v ∧ w.cell? ⟨N, 5, none⟩ = some (.int .i64 0) ∧ w.cell? ⟨N, 6, none⟩ = some (.int .i64 0) ∧ w.cell? ⟨N, 7, none⟩ = some (.int .i64 0) ∧ w.cell? ⟨N, 8, none⟩ = some (.int .i64 0) ∧ w.cell? ⟨N, 9, none⟩ = some (.int .i64 0) ∧ w.cell? ⟨N, 10, none⟩ = some (.int .i64 0)) ∧ (∀ o, w.frozen? ⟨N, o, none⟩ = false) ∧ N < w.heap.size := by
  refine ⟨?_, fun o => by simp [World.frozen?, h], lt_of_block h⟩
  simp [World.cell?, h, rs11]

set_option maxHeartbeats 4000000 in
set_option maxRecDepth 100000 in
theorem lendR_any {L : List Rw} {v : Value} (w : World) (hv : RdR w v L) (hl : L.length ≤ 200) :
    Calls Try.prog 9 #[.agg (rs11 v)] w fun e w' => ∃ g, e = .returned (.agg (rs11 (.slice (some ⟨g, 0, none⟩) L.length (L.length + 3)))) ∧ w.heap.size ≤ g ∧ Row7 w' g (lentL L 3) ∧ Fr w w' (fun _ => False) := by
  have HV := hid hv
  obtain ⟨ao, cap, rfl, _⟩ := hv
  have hmk := fun (W : World) => run_make7 W L.length (by omega)
  have HM := hid (fun (W : World) => mark_any W)
  have HR11 : Hid (∀ x : Value, Value.agg #[.int .i64 0, .int .i64 0, .int .i64 0, .int .i64 0, x, .int .i64 0, .int .i64 0, .int .i64 0, .int .i64 0, .int .i64 0, .int .i64 0] = .agg (rs11 x)) := fun x => rfl
  have HB11 : Hid (∀ x : Value, Obj.cells #[.int .i64 0, .int .i64 0, .int .i64 0, .int .i64 0, x, .int .i64 0, .int .i64 0, .int .i64 0, .int .i64 0, .int .i64 0, .int .i64 0] 30 (0, 0) = .cells (rs11 x) 30 (0, 0)) := fun x => rfl
  rw [← HR11.out]
  go_enter Try.func9, Try.ntmps9
  go_wp2_with (refine wpl_copy7 rfl (.tmp 10) (.tmp 12) rfl _ L _ rfl rfl ?c1 ?c2 ?_)
  case c1 => exact HV.out.step (by repeat (first | with_reducible exact Fr.refl _ _ | with_reducible apply Fr.alloc))
  case c2 => exact heap_last _ _ _ (by simp)
  intro W2 hR2 hF2
  have HR2 := hid hR2
  have HF2 : Hid (Fr w W2 (fun _ => False)) := Fr.trans2 (S := fun _ => False) (by repeat (first | with_reducible exact Fr.refl _ _ | with_reducible apply Fr.alloc)) hF2 (fun i hi e => by omega)
  have HN0 : Hid (W2.heap[w.heap.size]? = some (.cells (rs11 (.slice ao L.length cap)) 30 (0, 0))) := by
    show _ = _
    rw [hF2.block _ (by simp; omega) (by omega), Below.heap_alloc _ _ _ (by simp; omega), Below.heap_alloc _ _ _ (by simp)]
    exact heap_last w _ _ rfl
  have HN1 : Hid (W2.heap[w.heap.size + 1]? = some (.cells (rs11 (.slice none 0 0)) 30 (0, 0))) := by
    show _ = _
    rw [hF2.block _ (by simp) (by omega), Below.heap_alloc _ _ _ (by simp)]
    exact heap_last _ _ _ (by simp)
  clear hR2 hF2 HV hmk
  generalize hNN : w.heap.size = N at *
  obtain ⟨⟨b0, b1, b2, b3, b4, b5, b6, b7, b8, b9, b10⟩, bf, bl⟩ := cells11 HN0.out
  go_wp2_with fail
  clear b0 b1 b2 b3 b4 b5 b6 b7 b8 b9 b10 bf bl
  go_loopg [4] 3 (fun g s4 wx => ∃ k j : Nat, s4 = .int .i64 (j : Int) ∧ k + g = 3 ∧ Hid (j = L.length + k) ∧ Hid (Row7 wx (N + 1 + 1) (lentL L k)) ∧ Hid (wx.heap[N]? = some (.cells (rs11 (.slice ao L.length cap)) 30 (0, 0))) ∧ Hid (wx.heap[N + 1]? = some (.cells (rs11 (.slice none 0 0)) 30 (0, 0))) ∧ Hid (Fr w wx (fun _ => False)))
  case atStart => exact ⟨0, L.length, rfl, by omega, (by simp : L.length = L.length + 0), HR2, HN0, HN1, HF2⟩
  case round =>
    obtain ⟨k, j, rfl, hk, HJ, HR, HB, HC, HF⟩ := hrel
    clear HR2 HF2 HN0 HN1
    have hj := HJ.out
    have hj3 : (j : Int) = (L.length : Int) + (k : Int) := by omega
    cases gk with
    | zero =>
      have hk3 : k = 3 := by omega
      have hj4 : j = L.length + 3 := by omega
      have t1 : ¬ (j : Int) < (((L.length + 3 : Nat)) : Int) := by omega
      have t2 : ¬ j < L.length + 3 := by omega
      have t3 : ¬ (j : Int) < (L.length : Int) + 3 := by omega
      have HR3 : Hid (Row7 wr (N + 1 + 1) (lentL L 3)) := by
        have := HR.out
        rw [hk3] at this
        exact this
      clear hk hk3 hj hj3 hj4 HJ
      obtain ⟨⟨b0, b1, b2, b3, b4, b5, b6, b7, b8, b9, b10⟩, bf, bl⟩ := cells11 HB.out
      obtain ⟨⟨d0, d1, d2, d3, d4, d5, d6, d7, d8, d9, d10⟩, df, dl⟩ := cells11 HC.out
      have z0 : (0 : Int) ≤ (L.length : Int) := by omega
      have z1 : (L.length : Int) ≤ ((L.length + 3 : Nat) : Int) := by omega
      have z2 : (L.length : Int) ≤ (L.length : Int) + 3 := by omega
      go_wp2_with fail
      refine bodyPost_ret (v := .agg #[.int .i64 0, .int .i64 0, .int .i64 0, .int .i64 0, .slice (some ⟨N + 1 + 1, 0, none⟩) L.length (L.length + 3), .int .i64 0, .int .i64 0, .int .i64 0, .int .i64 0, .int .i64 0, .int .i64 0]) (by simp [results, Try.results9, go_sem, d0, d1, d2, d3, d4, d5, d6, d7, d8, d9, d10]) rfl ⟨N + 1 + 1, rfl, by omega, ?_, ?_⟩
      · refine HR3.out.fr (S := fun b => b = N ∨ b = N + 1) ?_ (by omega)
        repeat (first | with_reducible exact Fr.refl _ _ | (with_reducible refine Fr.setCell ?_ ?_ _; rotate_left; (intro _; first | exact Or.inl rfl | exact Or.inr rfl)))
      · repeat (first | with_reducible exact HF.out | (with_reducible refine Fr.setCell ?_ ?_ _; rotate_left; (intro h; simp only at h; omega)))
    | succ g2 =>
      have t1 : (j : Int) < (((L.length + 3 : Nat)) : Int) := by omega
      have t3 : (j : Int) < (L.length : Int) + 3 := by omega
      have t0 : (0 : Int) ≤ (j : Int) := by omega
      have hjl : j < L.length + 3 := by omega
      have hk3 : k < 3 := by omega
      have HK := hid hk
      go_wp2_with fail
      refine (HM.out _).mono ?_
      rintro e w1 ⟨rfl, hf⟩
      have HF1 := hid (HF.out.trans hf)
      have HRr := hid (HR.out.fr hf (fun h => h))
      have HB1 := hid ((hf.block N (lt_of_block HB.out) (fun h => h)).trans HB.out)
      have HC1 := hid ((hf.block (N + 1) (lt_of_block HC.out) (fun h => h)).trans HC.out)
      have hEl := HRr.out.el (by rw [lentL_len L k (by omega)]; omega) (i := j) (by rw [lentL_len L k (by omega)]; omega)
      obtain ⟨y0, y1, y2, _⟩ := hEl
      have yf := HRr.out.free
      have yl := HRr.out.lt
      have HMk := hid (HRr.out.mark (i := j) (by rw [lentL_len L k (by omega)]; omega) (by rw [hj]; exact lentL_at L k hk3))
      rw [show (lentL L k).set j mkR = lentL L (k + 1) by rw [hj]; exact lentL_step L k hk3] at HMk
      clear hf HR HB HC HF hk hj hj3
      go_wp2_with fail
      go_roundg g2
      case measure => omega
      case rel => exact ⟨k + 1, j + 1, by go_num, by have := HK.out; omega, (by have := HJ.out; omega : j + 1 = L.length + (k + 1)), HMk, by
          show _ = _
          rw [Below.heap_setCell _ _ _ _ (by simp; omega), Below.heap_setCell _ _ _ _ (by simp; omega), Below.heap_setCell _ _ _ _ (by simp; omega)]
          exact HB1.out, by
          show _ = _
          rw [Below.heap_setCell _ _ _ _ (by simp), Below.heap_setCell _ _ _ _ (by simp), Below.heap_setCell _ _ _ _ (by simp)]
          exact HC1.out, ((HF1.out.setCell (p := ⟨N + 1 + 1, j * 7, none⟩) (fun h => by simp only at h; omega) _).setCell (p := ⟨N + 1 + 1, j * 7 + 1, none⟩) (fun h => by simp only at h; omega) _).setCell (p := ⟨N + 1 + 1, j * 7 + 2, none⟩) (fun h => by simp only at h; omega) _⟩
end Go.Proofs.Ytilgkfpicdmkkaa.M
