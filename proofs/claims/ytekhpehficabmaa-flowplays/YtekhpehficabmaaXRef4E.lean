/- The document's flow: Pass of an event: a walk. -/
import Derived.Test.YtekhpehficabmaaXRef4
namespace Go.Proofs.Ytekhpehficabmaa
open Go.RowKit

set_option maxHeartbeats 16000000 in
set_option maxRecDepth 100000 in
theorem rpass_ev {lo : Nat} {w : World} {g : RX} {box : Nat} {s : Ps} (h : RF lo w g box s) (hlo : lo ≤ w.heap.size) (hw : Wf s box) (hv : Inv s) {n : Nat} {x : It} {L : List It} (hn : n < s.q.length) (hq : s.q.getD n [] = x :: L) (hxm : x.m = false) (hnf : ¬ box ≤ (s.b.getD (tow s n x) []).length) : Calls Try.prog 26 #[.pointer (some ⟨g.R, 0, none⟩), .int .i64 (n : Int)] w fun e w' => e = .returned (.tuple #[.int .i64 (tow s n x : Int), .int .i64 0]) ∧ RA lo w w' g box (pasT s n x (tow s n x)) := by
  have HTO := hid (rtoward_any h hw (n : Int))
  have HXM0 := hid hxm
  clear hxm
  have hr := firR_cons hn hq
  have hj := tow_lt hw hn x
  have hnn : n < s.n.length := by rw [hw.nn]; exact hn
  obtain ⟨j, hjj⟩ : ∃ j, tow s n x = j := ⟨_, rfl⟩
  have hj8 := hw.nb.2
  rw [hjj] at hj hr hnf ⊢
  have hfull := hnf
  clear hnf
  rw [hr] at HTO
  simp only at HTO
  have hbj := hw.b j hj
  have t1 : (0 : Int) ≤ (j : Int) := by omega
  have t2 : (j : Int) < (s.b.length : Int) := by omega
  have t3 : (n : Int) < (s.q.length : Int) := by omega
  have t4 : (0 : Int) ≤ (n : Int) := by omega
  have HCX : Hid (∃ ax cx, ∀ W : World, Fr w W (fun _ => False) → W.cell? ⟨g.X, j, none⟩ = some (.slice ax (s.b.getD j []).length cx) ∧ g.X < W.heap.size ∧ W.ownsRow lo 94 5 (.slice ax (s.b.getD j []).length cx) (s.b.getD j []).length (fl elM (s.b.getD j [])) ∧ g.xv.getD j nil3 = .slice ax (s.b.getD j []).length cx) := by
    have hl : j < g.xv.length := by rw [h.b.len]; exact hj
    obtain ⟨ax, cx, hvx, d0⟩ := h.b.cell hl
    have hown := h.b.own j hl
    rw [hvx] at hown
    refine ⟨ax, cx, fun W hW => ?_⟩
    have hr' := (fr_rules hW).1
    exact ⟨by rw [hr' _ _ (lt_of_block h.b.row)]; exact d0, by have := hW.size; have := lt_of_block h.b.row; omega, own_fr hown hW (fun _ _ h => h), hvx⟩
  obtain ⟨ax, cx, hcx⟩ := HCX.out
  have HC2 := hid hcx
  have HCE := hid (fun (W : World) (hW : Fr w W (fun _ => False)) => (h.still hW).cells)
  clear hcx HCX
  have q1 : decide ((box : Int) ≤ ((s.b.getD j []).length : Int)) = false := decide_eq_false (by omega)
  have q2 : ¬ (box : Int) ≤ ((s.b.getD j []).length : Int) := by omega
  have HQX : Hid (∃ b cp, ∀ W : World, Fr w W (fun _ => False) → (W.cell? ⟨g.Q, n, none⟩ = some (.slice (some ⟨b, 0, none⟩) (L.length + 1) cp) ∧ g.Q < W.heap.size) ∧ W.cell? ⟨b, 0, none⟩ = some (.bool x.m) ∧ W.cell? ⟨b, 1, none⟩ = some (.string x.k) ∧ W.cell? ⟨b, 2, none⟩ = some (.int .i64 x.t) ∧ W.cell? ⟨b, 3, none⟩ = some (.int .i64 x.v) ∧ b < W.heap.size) := by
    have hl : n < g.qv.length := by rw [h.q.len]; exact hn
    have hown := h.q.own n hl
    obtain ⟨ao, cap, hvq, d0⟩ := h.q.cell hl
    rw [hq] at hown
    obtain ⟨b, cp, hv2, h1, h2, h3⟩ := own_some hown
    rw [hv2] at hown
    refine ⟨b, cp, fun W hW => ?_⟩
    have hr' := (fr_rules hW).1
    have hh := own_head (own_fr hown hW (fun _ _ h => h))
    have hs := hW.size
    have hQl := lt_of_block h.q.row
    exact ⟨⟨by rw [hr' _ _ hQl, d0, ← hvq, hv2], by omega⟩, hh 0 _ rfl, hh 1 _ rfl, hh 2 _ rfl, hh 3 _ rfl, by omega⟩
  obtain ⟨bq, cq, hqx⟩ := HQX.out
  have HQ2 := hid hqx
  have HRF := hid h
  have HN := hid hn
  have HNN := hid hnn
  have HQ := hid hq
  have HJ := hid hj
  have HLO0 := hid hlo
  have HJJ := hid hjj
  have HWF := hid hw
  have HIN := hid hv
  have hlen := (hw.q n hn).1
  rw [hq] at hlen
  have HLL : Hid (L.length + 1 ≤ 65536) := by have h9 := hlen; simp at h9; show _ ≤ _; omega
  have HLB : Hid ((s.b.getD j []).length < box ∧ box ≤ 64) := ⟨by omega, hw.bx.2⟩
  have t5 : (0 : Int) < ((L.length + 1 : Nat) : Int) := by omega
  clear h hq hr hw hv hfull hbj hjj hn hnn hj hqx HQX hlen
  generalize hmb : s.b.length = mb at *
  have HMB := hid hmb
  clear hmb
  generalize hmq : s.q.length = mq at *
  have HML := hid hmq
  clear hmq
  generalize hlb : (s.b.getD j []).length = lb at *
  have HLBE := hid hlb
  clear hlb
  go_enter Try.func26, Try.ntmps26
  go_wp2_with fail
  refine HTO.out.mono ?_
  rintro e w1 ⟨rfl, hf⟩
  have HF := hid hf
  clear hf
  obtain ⟨c0, c1, c2, c3, hlt⟩ := HCE.out _ HF.out
  obtain ⟨d0, hXl, _, _⟩ := HC2.out _ HF.out
  go_wp2_with fail
  go_quiet (fail)
  have HF1 := hid (HF.out.drewN nq)
  clear HF c0 c1 c2 c3 hlt d0 hXl
  generalize w1.drewN nq = w2 at *
  obtain ⟨c0, c1, c2, c3, hlt⟩ := HCE.out _ HF1.out
  obtain ⟨⟨d1, hQl⟩, x0, x1, x2, x3, hbl⟩ := HQ2.out _ HF1.out
  go_upto_region 7 with fail
  have HF2 := hid (HF1.out.trans (alloc_fr w2 (.cells (elI x).toArray 33) (fun _ => False)))
  have HM2 : Hid ((w2.alloc (.cells (elI x).toArray 33)).heap[w2.heap.size]? = some (.cells (elI x).toArray 33 (0, 0))) := RI.new_el rfl
  have HMW : Hid (w.heap.size ≤ w2.heap.size) := HF1.out.size
  clear HF1 c0 c1 c2 c3 hlt d1 hQl x0 x1 x2 x3 hbl
  unfold elI at HM2 HF2
  generalize (w2.alloc (.cells _ 33)) = W2 at *
  generalize w2.heap.size = M at *
  obtain ⟨c0, c1, c2, c3, hlt⟩ := HCE.out _ HF2.out
  obtain ⟨d0, hXl, hownX, hvX⟩ := HC2.out _ HF2.out
  have HOX := hid hownX
  have HVX := hid hvX
  obtain ⟨x0, x1, x2, x3⟩ := RI.el_cells (x := x) HM2.out
  have hMl := lt_of_block HM2.out
  have HRF2 := hid (HRF.out.still HF2.out)
  have HMO : Hid (¬ g.ow M) := fun hk => by have h1 := HRF.out.lt hk; have h2 := HMW.out; omega
  have HNEW : Hid (∀ j' u, (fl elM [⟨(n : Int), x⟩])[j']? = some u → (W2.alloc (.cells (elM ⟨(n : Int), x⟩).toArray 94)).drew.cell? ((⟨W2.heap.size, 0, none⟩ : Addr).add j') = some u) := fun j' u hj' => by
    have hb : (W2.alloc (.cells (elM ⟨(n : Int), x⟩).toArray 94)).drew.heap[W2.heap.size]? = some (.cells (elM ⟨(n : Int), x⟩).toArray 94 (0, 0)) := heap_last W2 _ _ rfl
    rw [Addr.add_lit, Nat.zero_add, cell_of_row _ W2.heap.size j' _ _ (0, 0) hb]
    simpa [fl] using hj'
  have HLS7 : Hid (lo ≤ (W2.alloc (.cells (elM ⟨(n : Int), x⟩).toArray 94)).drew.heap.size) := by have h1 := HLO0.out; have h2 := HF2.out.size; show lo ≤ (W2.alloc (.cells (elM ⟨(n : Int), x⟩).toArray 94)).heap.size; simp; omega
  clear hownX hvX
  go_cut [56] (fun _s56 wx => Hid (∃ g1, PQ lo W2 wx g box ⟨s.q, s.n, s.b.set j (s.b.getD j [] ++ [⟨(n : Int), x⟩])⟩ M x g1))
  case first =>
    go_region_law (refine step_app kdM rfl (.tmp 51) (.tmp 55) rfl (lo := lo) (v := .slice ax lb cx) (L := s.b.getD j []) (by first | rfl | simp [Act.eval, Act.put]) (by rw [HLBE.out]; exact own_fr HOX.out (alloc_fr _ _ (fun _ => False)).drew (fun _ _ h => h)) ⟨W2.heap.size, 0, none⟩ 1 1 [⟨(n : Int), x⟩] (by first | rfl | simp [Act.eval, Act.put]) rfl HNEW.out (by have h1 := HLB.out; have h2 := HLBE.out; omega) HLS7.out (lb + 1) (by rw [HLBE.out]) ?_; intro ao2 cap2 w9 H1 H2 H3; have HST := hid (HRF2.out.setX (by rw [HMB.out]; exact HJ.out) (by rw [HVX.out]; exact ((alloc_fr W2 (.cells (elM ⟨(n : Int), x⟩).toArray 94) _).drew).trans H2.out) H1.out (by rw [HVX.out]; exact H3.out.lower (by simp))); have hR2 := HRF2.out.cells2 (((alloc_fr W2 (.cells (elM ⟨(n : Int), x⟩).toArray 94) _).drew).trans H2.out) (fun e => own_ne HOX.out HRF2.out.cell (by decide) e); obtain ⟨⟨u9, hu9⟩, hfz9, hQ9, _⟩ := HST.out; obtain ⟨_, _, r2, _, r5⟩ := hR2; rw [HMB.out] at r2)
    all_goals
      go_wp2_with fail
      go_meet
      obtain ⟨g1, k1, k2, k3, k4⟩ := HST.out.2.2.2
      exact ⟨g1, k1, k2, k3, k4, keep_block HM2.out k4 HMO.out, fun hk => (k3 M hk).elim HMO.out (fun h => by have := lt_of_block HM2.out; omega)⟩
  case rest =>
    obtain ⟨gx, hPX⟩ := hcut.out
    have HPX0 := hid hPX
    clear hPX hcut c0 c1 c2 c3 hlt d0 hXl x0 x1 x2 x3 hMl
    obtain ⟨x0, x1, x2, x3⟩ := RI.el_cells (x := x) HPX0.out.blk
    have hMl := lt_of_block HPX0.out.blk
    have hxm : x.m = false := HXM0.out
    rw [hxm] at x0
    have HIZ : Hid (s.n = s.n.set n 0) := by
      show _ = _
      have h9 : s.n.getD n 0 = 0 := Classical.byContradiction (fun h => by
        obtain ⟨y, L', hy, hym⟩ := HIN.out n h
        rw [HQ.out] at hy
        cases hy
        rw [hxm] at hym
        cases hym)
      conv => lhs; rw [← set_getD_self s.n n 0, h9]
    have HPT : Hid (pasT s n x j = ⟨s.q.set n L, s.n, s.b.set j (s.b.getD j [] ++ [⟨(n : Int), x⟩])⟩) := by
      show _ = _
      unfold pasT
      rw [if_neg (fun h => by rw [hxm] at h; cases h.1), HQ.out, ← HIZ.out]
      rfl
    have HPX := HPX0
    clear HPX0 hxm
    go_upto_region 13 with fail
    clear x0 x1 x2 x3 hMl
    have HLO : Hid (lo ≤ wc.heap.size) := by have h1 := HLO0.out; have h2 := HPX.out.fr.size; have h3 := HF2.out.size; show _ ≤ _; omega
    have HLS : Hid (lo ≤ (wc.alloc (.cells #[] 33)).drew.heap.size) := by have h1 := HLO.out; show lo ≤ (wc.alloc (.cells #[] 33)).heap.size; simp; omega
    have HNX : Hid (n < (⟨s.q, s.n, s.b.set j (s.b.getD j [] ++ [⟨(n : Int), x⟩])⟩ : Ps).q.length) := by show n < s.q.length; rw [HML.out]; exact HN.out
    have HOW2 : Hid (∃ b cp, gx.qv.getD n nil3 = .slice (some ⟨b, 0, none⟩) (L.length + 1) cp ∧ L.length + 1 ≤ cp ∧ cp ≤ 9223372036854775807 ∧ b < wc.heap.size ∧ wc.ownsRow lo 33 4 (.slice (some ⟨b, 0, none⟩) (L.length + 1) cp) (x :: L).length (fl elI (x :: L)) ∧ wc.cell? ⟨gx.Q, n, none⟩ = some (.slice (some ⟨b, 0, none⟩) (L.length + 1) cp) ∧ gx.Q < wc.heap.size) := by
      have hl : n < gx.qv.length := by rw [HPX.out.rf.q.len]; show n < s.q.length; rw [HML.out]; exact HN.out
      have hown := HPX.out.rf.q.own n hl
      obtain ⟨ao, cap, hv, d0⟩ := HPX.out.rf.q.cell hl
      have hq2 : (⟨s.q, s.n, s.b.set j (s.b.getD j [] ++ [⟨(n : Int), x⟩])⟩ : Ps).q.getD n [] = x :: L := HQ.out
      rw [hq2] at hown
      obtain ⟨b, cp, hv2, h1, h2, h3⟩ := own_some hown
      rw [hv2] at hown
      exact ⟨b, cp, hv2, h1, h2, h3, hown, by rw [d0, ← hv, hv2], lt_of_block HPX.out.rf.q.row⟩
    obtain ⟨b2, cp2, _, hl12, hl22, hbl2, hown2, d02, hql2⟩ := HOW2.out
    have HOWN2 := hid hown2
    have HL12 := hid hl12
    obtain ⟨_, c1, _, _, hlt⟩ := HPX.out.rf.cells
    rw [HML.out] at c1
    rw [HPX.out.R] at c1 hlt
    clear hown2 HOW2
    generalize hll : L.length = ll at *
    have HLE : Hid (L.length = ll) := hll
    clear hll
    have s1 : (1 : Int) ≤ (ll : Int) + 1 := by omega
    have s0 : (0 : Int) ≤ (ll : Int) + 1 := by omega
    go_cut [103] (fun _s103 wx => Hid (∃ g2, PQ lo W2 wx g box ⟨s.q.set n L, s.n, s.b.set j (s.b.getD j [] ++ [⟨(n : Int), x⟩])⟩ M x g2))
    case first =>
      by_cases hcp : cp2 = 1
      · have hl0 : ll = 0 := by have h1 := HL12.out; omega
        have HSRC : Hid (∀ j u, (fl elI L)[j]? = some u → (wc.alloc (.cells #[] 33)).drew.cell? ((⟨b2, 0, none⟩ : Addr).add j) = some u) := fun j u hj => by
          have : L = [] := List.eq_nil_of_length_eq_zero (by rw [HLE.out]; exact hl0)
          rw [this] at hj; simp [fl] at hj
        subst hcp hl0
        go_region_law (refine step_app kdI rfl (.tmp 94) (.tmp 102) rfl (lo := lo) (v := .slice (some ⟨wc.heap.size, 0, none⟩) 0 0) (L := []) (by first | rfl | simp [Act.eval, Act.put]) (own_lit0 elI wc 33 4 lo HLO.out) ⟨b2, 0, none⟩ 0 (0) L (by first | rfl | simp [Act.eval, Act.put]) HLE.out HSRC.out (by have := HLL.out; first | (simp; done) | (simp; omega)) HLS.out 0 (by simp) ?_; intro ao2 cap2 w9 H1 H2 H3; have HST := hid (HPX.out.rf.setQ HNX.out (pop_fr (alloc_fr wc (.cells #[] 33) _).drew (Nat.le_refl _) H2.out _) H1.out (pop_nw (alloc_fr wc (.cells #[] 33) (fun _ => False)).drew (Nat.le_refl _) H3.out)); have hR2 := HPX.out.rf.cells2 (pop_fr (alloc_fr wc (.cells #[] 33) _).drew (Nat.le_refl _) H2.out (fun _ => False)) (fun e => e); obtain ⟨⟨u9, hu9⟩, hfz9, hQ9, _⟩ := HST.out; obtain ⟨_, r1, _, _, r5⟩ := hR2; rw [HML.out] at r1; rw [HPX.out.R] at r1 r5)
        all_goals
          go_wp2_with fail
          go_meet
          exact HPX.out.ra HST.out.2.2.2
      · have HSRC : Hid (∀ j u, (fl elI L)[j]? = some u → (wc.alloc (.cells #[] 33)).drew.cell? ((⟨b2, 4, none⟩ : Addr).add j) = some u) := own_src elI_len (L := x :: L) (own_fr HOWN2.out (alloc_fr wc (.cells #[] 33) (fun _ => False)).drew (fun _ _ h => h))
        go_region_law (refine step_app kdI rfl (.tmp 94) (.tmp 102) rfl (lo := lo) (v := .slice (some ⟨wc.heap.size, 0, none⟩) 0 0) (L := []) (by first | rfl | simp [Act.eval, Act.put]) (own_lit0 elI wc 33 4 lo HLO.out) ⟨b2, 4, none⟩ ll (cp2 - 1) L (by first | rfl | simp [Act.eval, Act.put]) HLE.out HSRC.out (by have := HLL.out; first | (simp; done) | (simp; omega)) HLS.out ll (by simp) ?_; intro ao2 cap2 w9 H1 H2 H3; have HST := hid (HPX.out.rf.setQ HNX.out (pop_fr (alloc_fr wc (.cells #[] 33) _).drew (Nat.le_refl _) H2.out _) H1.out (pop_nw (alloc_fr wc (.cells #[] 33) (fun _ => False)).drew (Nat.le_refl _) H3.out)); have hR2 := HPX.out.rf.cells2 (pop_fr (alloc_fr wc (.cells #[] 33) _).drew (Nat.le_refl _) H2.out (fun _ => False)) (fun e => e); obtain ⟨⟨u9, hu9⟩, hfz9, hQ9, _⟩ := HST.out; obtain ⟨_, r1, _, _, r5⟩ := hR2; rw [HML.out] at r1; rw [HPX.out.R] at r1 r5)
        all_goals
          go_wp2_with fail
          go_meet
          exact HPX.out.ra HST.out.2.2.2
    case rest =>
      obtain ⟨g9, hP9⟩ := hcut.out
      have HP9 := hid hP9
      clear hP9 hcut c1 hlt d02 hql2 hbl2
      go_wp2_with fail
      go_ret2
      refine ⟨rfl, RA.pre HF2.out ?_⟩
      rw [HPT.out]
      exact HP9.out.done
end Go.Proofs.Ytekhpehficabmaa
