/- The document's flow: Pass: a walk. -/
import Derived.Test.YtekhpehficabmaaXRef4M
import Derived.Test.YtekhpehficabmaaXRef4E
namespace Go.Proofs.Ytekhpehficabmaa
open Go.RowKit

set_option maxHeartbeats 16000000 in
set_option maxRecDepth 100000 in
theorem rpass_any {lo : Nat} {w : World} {g : RX} {box : Nat} {s : Ps} (h : RF lo w g box s) (hlo : lo ≤ w.heap.size) (hw : Wf s box) (hv : Inv s) (i : Int) : Calls Try.prog 26 #[.pointer (some ⟨g.R, 0, none⟩), .int .i64 i] w fun e w' => e = .returned (.tuple #[.int .i64 ((pasR s box i).1 : Int), .int .i64 (pasR s box i).2]) ∧ RA lo w w' g box (pasS s box i) := by
  have HSM := hid (fun (W : World) (hW : Fr w W (fun _ => False)) => RA.same h hW)
  have HTO := hid (rtoward_any h hw i)
  by_cases he : (firR s i).2.2 = 0
  case neg =>
    rw [(pas_err (box := box) he).1, (pas_err (box := box) he).2]
    have z1 : ((firR s i).2.2 != 0) = true := by simpa using he
    clear h he hw hv
    simp only
    generalize (firR s i).1 = tw at *
    generalize (firR s i).2.2 = er at *
    go_enter Try.func26, Try.ntmps26
    go_wp2_with fail
    refine HTO.out.mono ?_
    rintro e w1 ⟨rfl, hf⟩
    have HF := hid hf
    clear hf
    go_wp2_with fail
    go_ret2
    exact ⟨rfl, HSM.out _ HF.out⟩
  case pos =>
    obtain ⟨n, rfl, hn, x, L, hq, hr⟩ := fir_ok he
    have hj := tow_lt hw hn x
    have hnn : n < s.n.length := by rw [hw.nn]; exact hn
    obtain ⟨j, hjj⟩ : ∃ j, tow s n x = j := ⟨_, rfl⟩
    have hj8 := hw.nb.2
    rw [hjj] at hj hr
    have e1 : pasR s box (n : Int) = if box ≤ (s.b.getD j []).length then (0, 45) else (j, 0) := by unfold pasR; rw [hr, if_neg (by simp)]
    have e2 : pasS s box (n : Int) = if box ≤ (s.b.getD j []).length then s else pasT s n x j := by unfold pasS; rw [hr, if_neg (by simp), Int.toNat_natCast]
    rw [hr] at HTO
    simp only at HTO
    rw [e1, e2]
    have hbj := hw.b j hj
    have t1 : (0 : Int) ≤ (j : Int) := by omega
    have t2 : (j : Int) < (s.b.length : Int) := by omega
    have t3 : (n : Int) < (s.q.length : Int) := by omega
    have t4 : (0 : Int) ≤ (n : Int) := by omega
    have HCX : Hid (∃ ax cx, ∀ W : World, Fr w W (fun _ => False) → W.cell? ⟨g.X, j, none⟩ = some (.slice ax (s.b.getD j []).length cx) ∧ g.X < W.heap.size ∧ W.ownsRow lo 94 5 (.slice ax (s.b.getD j []).length cx) (s.b.getD j []).length (fl elM (s.b.getD j [])) ∧ g.xv.getD j nil3 = .slice ax (s.b.getD j []).length cx) := by
      have hl : j < g.xv.length := by rw [h.b.len]; exact hj
      obtain ⟨ax, cx, hvx, d0⟩ := h.b.cell hl
      have hown := h.b.own j hl
      rw [hvx] at hown
      refine ⟨ax, cx, fun W hW => ?_⟩
      have hr' := (fr_rules hW).1
      exact ⟨by rw [hr' _ _ (lt_of_block h.b.row)]; exact d0, by have := hW.size; have := lt_of_block h.b.row; omega, own_fr hown hW (fun _ _ h => h), hvx⟩
    obtain ⟨ax, cx, hcx⟩ := HCX.out
    have HC2 := hid hcx
    have HCE := hid (fun (W : World) (hW : Fr w W (fun _ => False)) => (h.still hW).cells)
    clear hcx HCX e1 e2 he
    by_cases hfull : box ≤ (s.b.getD j []).length
    · rw [if_pos hfull, if_pos hfull]
      have q1 : (box : Int) ≤ ((s.b.getD j []).length : Int) := by omega
      clear h hq hr hw hv hfull hbj hjj hn hnn hj
      simp only
      generalize (s.b.getD j []).length = lb at *
      generalize s.b.length = mb at *
      generalize s.q.length = mq at *
      go_enter Try.func26, Try.ntmps26
      go_wp2_with fail
      refine HTO.out.mono ?_
      rintro e w1 ⟨rfl, hf⟩
      have HF := hid hf
      clear hf
      obtain ⟨c0, c1, c2, c3, hlt⟩ := HCE.out _ HF.out
      obtain ⟨d0, hXl, _, _⟩ := HC2.out _ HF.out
      go_wp2_with fail
      go_quiet (fail)
      go_wp2_with fail
      go_ret2
      exact ⟨rfl, HSM.out _ (HF.out.drewN _)⟩
    · rw [if_neg hfull, if_neg hfull]
      simp only
      have hxx : x.m = true ∨ x.m = false := by
        cases hq9 : x.m with
        | true => exact Or.inl rfl
        | false => exact Or.inr rfl
      subst hjj
      rcases hxx with hx9 | hx9
      · exact rpass_mk h hlo hw hv hn hq hx9 hfull
      · exact rpass_ev h hlo hw hv hn hq hx9 hfull
end Go.Proofs.Ytekhpehficabmaa
