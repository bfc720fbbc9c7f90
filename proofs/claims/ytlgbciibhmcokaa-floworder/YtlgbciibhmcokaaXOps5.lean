/- flow: Pass: a walk. -/
import Derived.Test.YtlgbciibhmcokaaXOps4
import Derived.ScopeJumps
import Derived.WalkMore
namespace Go.Proofs.Ytlgbciibhmcokaa
open Go.RowKit

/-- What Pass answers, and leaves. -/
def pasR (s : Ps) (box : Nat) (i : Int) : Nat × Int := if (firR s i).2.2 ≠ 0 then (0, (firR s i).2.2) else if box ≤ (s.b.getD (firR s i).1 []).length then (0, 45) else ((firR s i).1, 0)
def pasT (s : Ps) (n : Nat) (x : It) (j : Nat) : Ps := if x.m = true ∧ j + 1 < s.b.length then ⟨s.q, s.n.set n (s.n.getD n 0 + 1), s.b.set j (s.b.getD j [] ++ [⟨(n : Int), x⟩])⟩ else ⟨s.q.set n (s.q.getD n []).tail, s.n.set n 0, s.b.set j (s.b.getD j [] ++ [⟨(n : Int), x⟩])⟩
def pasS (s : Ps) (box : Nat) (i : Int) : Ps := if (firR s i).2.2 ≠ 0 then s else if box ≤ (s.b.getD (firR s i).1 []).length then s else pasT s i.toNat (firR s i).2.1 (firR s i).1
theorem Aft.grow {w w1 w2 : World} {g g' : Fx} {box : Nat} {s : Ps} (hB : g'.B = g.B) (hg : Gr w g.ow g'.ow) (hf : Fr w w1 g.ow) (h : Aft w1 w2 g' box s) : Aft w w2 g box s := by
  obtain ⟨g2, h1, h2, h3, h4, h5⟩ := h
  have hs := hf.size
  refine ⟨g2, h1.trans hB, h2, h3, fun k hk => ?_, hf.trans2 h5 (fun k hk e => ?_)⟩
  · rcases h4 k hk with h | h
    · exact hg k h
    · exact Or.inr (by omega)
  · rcases hg k e with h | h
    · exact h
    · omega
/-- A scope whose one jump goes forward. -/
theorem wp_scope_fwd {P : Program} {a : Act} {w : World} {Q : Exit → Act → World → Prop} {c rest : Code} (l : Nat) (hf : findLabel c l = some rest) (first : c.wp P (Exit.jump l (fun a w => rest.wp P (Exit.noGoto Q) a w) Q) a w) : (Code.scope c).wp P Q a w :=
  wp_scope_jumps l (fun a w => rest.wp P (Exit.noGoto Q) a w) (fun _ _ => 0) hf first (fun a w h b k cs => by
    obtain ⟨e, a', w', hq, harr⟩ := h b k cs
    refine ⟨e, a', w', ?_, harr⟩
    cases e <;> first | exact hq | exact hq.elim)
set_option maxHeartbeats 4000000 in
theorem fpass_any {w : World} {g : Fx} {box : Nat} (h : Fw w g box) (i : Int) : Calls Try.prog 17 #[.pointer (some ⟨g.B, 0, none⟩), .int .i64 i] w fun e w' => e = .returned (.tuple #[.int .i64 ((pasR g.ps box i).1 : Int), .int .i64 (pasR g.ps box i).2]) ∧ Aft w w' g box (pasS g.ps box i) := by
  obtain ⟨c0, c1, hlt⟩ := h.cells
  have HSM := hid (fun (W : World) (hW : Fr w W (fun _ => False)) => Aft.same h hW)
  have HFI := hid (fun (W : World) (hW : Fr w W (fun _ => False)) => ffirst_any (h.still hW) i)
  by_cases he : (firR g.ps i).2.2 = 0
  case neg =>
    have e1 : pasR g.ps box i = (0, (firR g.ps i).2.2) := by unfold pasR; rw [if_pos he]
    have e2 : pasS g.ps box i = g.ps := by unfold pasS; rw [if_pos he]
    rw [e1, e2]
    simp only
    have hx' : ((firR g.ps i).2.2 != 0) = true := by simpa using he
    clear e1 e2 h he
    generalize (firR g.ps i).1 = j at *
    generalize (firR g.ps i).2.1 = x at *
    generalize (firR g.ps i).2.2 = er at *
    unfold vI at HFI
    go_enter Try.func17, Try.ntmps17
    go_wp2_with fail
    refine wp_scope_fwd 0 rfl ?_
    go_wp2_with fail
    refine (HFI.out _ (Fr.refl _ _)).mono ?_
    rintro e w1 ⟨rfl, hf⟩
    have HF := hid hf
    clear hf
    go_wp2_with fail
    simp only [Exit.jump]
    go_ret2
    exact ⟨rfl, HSM.out _ (HF.out.alloc _)⟩
  case pos =>
    obtain ⟨n, hn⟩ : ∃ n : Nat, i = (n : Int) := by
      by_cases hi : 0 ≤ i ∧ i < (g.ps.q.length : Int)
      · exact ⟨i.toNat, by omega⟩
      · rw [firR_out hi] at he; cases he
    subst hn
    have hn : n < g.fs.length := by
      rcases Nat.lt_or_ge n g.fs.length with h' | h'
      · exact h'
      · rw [firR_out (by rw [ps_ql]; omega)] at he; cases he
    have hqq := ps_q (g := g) hn
    cases hq : (g.fs.getD n fd0).q with
    | nil =>
      rw [hq] at hqq
      rw [firR_nil (by rw [ps_ql]; exact hn) hqq] at he; cases he
    | cons x L =>
      rw [hq] at hqq
      have hfi := firR_cons (s := g.ps) (by rw [ps_ql]; exact hn) hqq
      have hj : tow g.ps n x < g.xs.length := by
        unfold tow
        split
        · rw [ps_n hn]; exact (h.fr n hn).2.2.1
        · rw [ps_bl]; exact Nat.mod_lt _ h.nb.1
      obtain ⟨j, hjj⟩ : ∃ j, tow g.ps n x = j := ⟨_, rfl⟩
      rw [hjj] at hfi hj
      have e1 : pasR g.ps box (n : Int) = if box ≤ (g.ps.b.getD j []).length then (0, 45) else (j, 0) := by unfold pasR; rw [hfi, if_neg (by simp)]
      have e2 : pasS g.ps box (n : Int) = if box ≤ (g.ps.b.getD j []).length then g.ps else pasT g.ps n x j := by unfold pasS; rw [hfi, if_neg (by simp), Int.toNat_natCast]
      rw [hfi] at HFI
      simp only at HFI
      rw [e1, e2, ps_b hj]
      have hbl := (h.br j hj).2
      clear e1 e2 he hfi
      have i1 : (0 : Int) ≤ (j : Int) := by omega
      have i2 : (j : Int) < (g.xs.length : Int) := by omega
      have i3 : (n : Int) < (g.fs.length : Int) := by omega
      have i4 : (0 : Int) ≤ (n : Int) := by omega
      have HCE := hid (fun (W : World) (hW : Fr w W (fun _ => False)) => (h.still hW).cells)
      by_cases hfull : (g.xs.getD j bx0).ms.length = box
      · rw [if_pos (by omega), if_pos (by omega)]
        have HAD := hid (fun (W : World) (hW : Fr w W (fun _ => False)) => add_box_full (h.still hW) hj ⟨(n : Int), x⟩ hfull)
        clear h hq hqq hfull hbl hjj
        simp only
        generalize g.xs.length = m at *
        generalize g.fs.length = mf at *
        unfold vI at HFI
        unfold vM at HAD
        go_enter Try.func17, Try.ntmps17
        go_wp2_with fail
        refine wp_scope_fwd 0 rfl ?_
        go_wp2_with fail
        refine (HFI.out _ (Fr.refl _ _)).mono ?_
        rintro e w1 ⟨rfl, hf⟩
        have HF := hid hf
        clear hf
        go_wp2_with fail
        have HM2 : Hid ((w1.alloc (.cells (elI x).toArray 33)).heap[w1.heap.size]? = some (.cells (elI x).toArray 33 (0, 0))) := RI.new_el rfl
        have HF2 := hid (HF.out.trans (alloc_fr w1 (.cells (elI x).toArray 33) (fun _ => False)))
        clear HF c0 c1 hlt
        unfold elI at HM2 HF2
        generalize (w1.alloc (.cells _ 33)) = w2 at *
        generalize w1.heap.size = M at *
        obtain ⟨c0, c1, hlt⟩ := HCE.out _ HF2.out
        obtain ⟨x0, x1, x2, x3⟩ := RI.el_cells (x := x) HM2.out
        have hMl := lt_of_block HM2.out
        go_region_with (go_at_call 38; refine (HAD.out _ HF2.out.drew).mono ?_; rintro e w3 ⟨rfl, hf3⟩; have HF3 := hid (HF2.out.drew.trans hf3); clear hf3)
        all_goals
          go_wp2_with fail
          simp only [Exit.jump]
          go_ret2
          exact ⟨rfl, HSM.out _ HF3.out⟩
      · rw [if_neg (by omega), if_neg (by omega)]
        have HAD := hid (fun (W : World) (hW : Fr w W (fun _ => False)) => add_box (h.still hW) hj ⟨(n : Int), x⟩ (by omega))
        have HOW : Hid (∀ k, g.ow k → k < w.heap.size) := fun k hk => h.lt hk
        have HN := hid hn
        have HQ := hid hqq
        have HJJ := hid hjj
        have HBL := hid (ps_bl g)
        have HPN := hid (ps_n (g := g) hn)
        have HPQ := hid (ps_q (g := g) hn)
        have HNF := hid h.nf
        have HNB := hid h.nb
        have HJ := hid hj
        have HQ2 := hid hq
        have HL8 := hid (And.intro h.nb.2 h.nf.2)
        have hj8 : j + 1 ≤ 8 := by have := h.nb.2; omega
        clear h hq hqq hfull hbl hjj
        simp only
        unfold vI at HFI
        unfold vM at HAD
        go_enter Try.func17, Try.ntmps17
        go_wp2_with fail
        refine wp_scope_fwd 0 rfl ?_
        go_wp2_with fail
        refine (HFI.out _ (Fr.refl _ _)).mono ?_
        rintro e w1 ⟨rfl, hf⟩
        have HF := hid hf
        clear hf
        go_wp2_with fail
        have HM2 : Hid ((w1.alloc (.cells (elI x).toArray 33)).heap[w1.heap.size]? = some (.cells (elI x).toArray 33 (0, 0))) := RI.new_el rfl
        have HF2 := hid (HF.out.trans (alloc_fr w1 (.cells (elI x).toArray 33) (fun _ => False)))
        have HMW : Hid (w.heap.size ≤ w1.heap.size) := HF.out.size
        clear HF c0 c1 hlt
        unfold elI at HM2 HF2
        generalize (w1.alloc (.cells _ 33)) = w2 at *
        generalize w1.heap.size = M at *
        obtain ⟨c0, c1, hlt⟩ := HCE.out _ HF2.out
        obtain ⟨x0, x1, x2, x3⟩ := RI.el_cells (x := x) HM2.out
        have hMl := lt_of_block HM2.out
        go_region_with (go_at_call 38; refine (HAD.out _ HF2.out.drew).mono ?_; rintro e w3 ⟨rfl, hP⟩; have HP := hid hP; clear hP)
        all_goals
          obtain ⟨g', hB, hF, hfs, hcf, hxl, hw, hps, hgr, hfr⟩ := HP.out
          have HW := hid hw
          have HPS := hid hps
          have HGR := hid hgr
          have HFR := hid hfr
          have HEQ := hid (And.intro hB (And.intro hF (And.intro hfs hxl)))
          have HM3 := hid (keep_block HM2.out (Fr.ofDrew hfr) (fun h => by have := HOW.out _ h; have := HMW.out; omega))
          obtain ⟨c0, c1, hlt⟩ := hw.cells
          rw [hB, hF, hfs, hcf] at c0
          rw [hB, hxl] at c1
          rw [hB] at hlt
          obtain ⟨x0, x1, x2, x3⟩ := RI.el_cells (x := x) HM3.out
          have hMl := lt_of_block HM3.out
          have hnx := hw.feeds.at fc_len (i := n) (by rw [hfs]; exact HN.out) fd0 (j := 4) (by omega) rfl
          rw [hF, hfs] at hnx
          have hFl := hw.feeds.lt
          rw [hF] at hFl
          have hFf := hw.feeds.free
          rw [hF] at hFf
          clear hB hF hfs hcf hxl hw hps hgr hfr HP
          cases hxm : x.m with
          | true =>
            rw [hxm] at x0
            by_cases hjl : j + 1 < g.xs.length
            · have t1 : (j : Int) + 1 < (g.xs.length : Int) := by omega
              have hnj : (g.fs.getD n fd0).n = j := by
                have := HJJ.out
                unfold tow at this
                rw [if_pos hxm, HPN.out] at this
                exact this
              rw [hnj] at hnx
              have HXM := hid hxm
              have HJL := hid hjl
              have HNJ := hid hnj
              clear hxm hjl hnj
              go_wp2_with fail
              go_step3
              refine ⟨rfl, ?_⟩
              go_wp2_with fail
              rw [Exit.noGoto_ret]
              go_ret2
              have hset := set_next HW.out (i := n) (by rw [HEQ.out.2.2.1]; exact HN.out) (j + 1) (by rw [HEQ.out.2.2.2]; exact HJL.out)
              rw [HEQ.out.2.1] at hset
              refine ⟨rfl, Aft.pre HF2.out.drew (Aft.grow HEQ.out.1 HGR.out HFR.out ?_)⟩
              have e5 : pasT g.ps n x j = ⟨g'.ps.q, g'.ps.n.set n (j + 1), g'.ps.b⟩ := by
                unfold pasT
                rw [if_pos ⟨HXM.out, by rw [HBL.out]; exact HJL.out⟩, HPS.out]
                simp only
                rw [HPN.out, HNJ.out]
              rw [e5]
              exact hset
            · have t1 : ¬ (j : Int) + 1 < (g.xs.length : Int) := by omega
              have HNG : Hid (¬ (x.m = true ∧ j + 1 < g.ps.b.length)) := fun h => hjl (by rw [← HBL.out]; exact h.2)
              have HTK : Hid (Calls Try.prog 39 #[.pointer (some ⟨g.F, n * 5, none⟩)] w3 fun e w' => e = .returned (.tuple #[vI x, .bool true]) ∧ ∃ g2, g2.B = g'.B ∧ g2.F = g'.F ∧ g2.fs.length = g'.fs.length ∧ Fw w' g2 box ∧ g2.ps = ⟨g'.ps.q.set n L, g'.ps.n, g'.ps.b⟩ ∧ Gr w3 g'.ow g2.ow ∧ Fr w3 w' g'.ow) := by
                rw [← HEQ.out.2.1]
                exact take_feed HW.out (by rw [HEQ.out.2.2.1]; exact HN.out) (by rw [HEQ.out.2.2.1]; exact HQ2.out)
              clear hxm hjl
              go_wp2_with fail
              refine (HTK.out).mono ?_
              rintro e w4 ⟨rfl, g2, hB2, hF2, hl2, hw2, hps2, hgr2, hfr2⟩
              have HW2 := hid hw2
              have HPS2 := hid hps2
              have HGR2 := hid hgr2
              have HFR2 := hid hfr2
              have HEQ2 := hid (And.intro hB2 (And.intro hF2 hl2))
              have hn2 : n < g2.fs.length := by rw [hl2, HEQ.out.2.2.1]; exact HN.out
              have hz := hw2.feeds.at fc_len (i := n) hn2 fd0 (j := 4) (by omega) rfl
              have hzl := hw2.feeds.lt
              have hzf := hw2.feeds.free
              have hFF : g2.F = g.F := hF2.trans HEQ.out.2.1
              rw [hFF] at hz hzl hzf
              have HN2 := hid hn2
              have HFF := hid hFF
              clear hB2 hF2 hl2 hw2 hps2 hgr2 hfr2 hn2 hFF c0 c1 hlt x0 x1 x2 x3 hMl hnx hFl hFf
              unfold vI
              go_wp2_with fail
              simp only [Exit.jump]
              go_ret2
              refine ⟨rfl, Aft.pre HF2.out.drew (Aft.grow HEQ.out.1 HGR.out HFR.out (Aft.grow HEQ2.out.1 HGR2.out HFR2.out ?_))⟩
              have hset := set_next HW2.out HN2.out 0 (by have := HW2.out.nb.1; omega)
              rw [HFF.out] at hset
              have e5 : pasT g.ps n x j = ⟨g2.ps.q, g2.ps.n.set n 0, g2.ps.b⟩ := by
                unfold pasT
                rw [if_neg HNG.out, HPS2.out]
                simp only
                rw [HPS.out]
                simp only
                rw [HQ.out]
                rfl
              rw [e5]
              exact hset
          | false =>
            rw [hxm] at x0
            have HNG : Hid (¬ (x.m = true ∧ j + 1 < g.ps.b.length)) := fun h => by rw [hxm] at h; cases h.1
            have HTK : Hid (Calls Try.prog 39 #[.pointer (some ⟨g.F, n * 5, none⟩)] w3 fun e w' => e = .returned (.tuple #[vI x, .bool true]) ∧ ∃ g2, g2.B = g'.B ∧ g2.F = g'.F ∧ g2.fs.length = g'.fs.length ∧ Fw w' g2 box ∧ g2.ps = ⟨g'.ps.q.set n L, g'.ps.n, g'.ps.b⟩ ∧ Gr w3 g'.ow g2.ow ∧ Fr w3 w' g'.ow) := by
              rw [← HEQ.out.2.1]
              exact take_feed HW.out (by rw [HEQ.out.2.2.1]; exact HN.out) (by rw [HEQ.out.2.2.1]; exact HQ2.out)
            clear hxm
            go_wp2_with fail
            refine (HTK.out).mono ?_
            rintro e w4 ⟨rfl, g2, hB2, hF2, hl2, hw2, hps2, hgr2, hfr2⟩
            have HW2 := hid hw2
            have HPS2 := hid hps2
            have HGR2 := hid hgr2
            have HFR2 := hid hfr2
            have HEQ2 := hid (And.intro hB2 (And.intro hF2 hl2))
            have hn2 : n < g2.fs.length := by rw [hl2, HEQ.out.2.2.1]; exact HN.out
            have hz := hw2.feeds.at fc_len (i := n) hn2 fd0 (j := 4) (by omega) rfl
            have hzl := hw2.feeds.lt
            have hzf := hw2.feeds.free
            have hFF : g2.F = g.F := hF2.trans HEQ.out.2.1
            rw [hFF] at hz hzl hzf
            have HN2 := hid hn2
            have HFF := hid hFF
            clear hB2 hF2 hl2 hw2 hps2 hgr2 hfr2 hn2 hFF c0 c1 hlt x0 x1 x2 x3 hMl hnx hFl hFf
            unfold vI
            go_wp2_with fail
            simp only [Exit.jump]
            go_ret2
            refine ⟨rfl, Aft.pre HF2.out.drew (Aft.grow HEQ.out.1 HGR.out HFR.out (Aft.grow HEQ2.out.1 HGR2.out HFR2.out ?_))⟩
            have hset := set_next HW2.out HN2.out 0 (by have := HW2.out.nb.1; omega)
            rw [HFF.out] at hset
            have e5 : pasT g.ps n x j = ⟨g2.ps.q, g2.ps.n.set n 0, g2.ps.b⟩ := by
              unfold pasT
              rw [if_neg HNG.out, HPS2.out]
              simp only
              rw [HPS.out]
              simp only
              rw [HQ.out]
              rfl
            rw [e5]
            exact hset
end Go.Proofs.Ytlgbciibhmcokaa
