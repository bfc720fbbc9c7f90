/- The document's flow: Route, Toward, Put: walks. -/
import Derived.Test.YtlgbciibhmcokaaXRef1
namespace Go.Proofs.Ytlgbciibhmcokaa
open Go.RowKit

theorem Nw.lower {w w' : World} {v v' : Value} (h : Nw w' v v') (hs : w.heap.size ≤ w'.heap.size) : Nw w v v' := fun k hk => (h k hk).imp id (fun h => by omega)
/-- The cells of the flow's own block behind a change elsewhere. -/
theorem RF.cells2 {lo : Nat} {W W2 : World} {S : Nat → Prop} {g : RX} {box : Nat} {s : Ps} (h : RF lo W g box s) (hf : Fr W W2 S) (hS : ¬ S g.R) : W2.cell? ⟨g.R, 0, none⟩ = some (.int .i64 (box : Int)) ∧ W2.cell? ⟨g.R, 1, none⟩ = some (.slice (some ⟨g.Q, 0, none⟩) s.q.length s.q.length) ∧ W2.cell? ⟨g.R, 2, none⟩ = some (.slice (some ⟨g.X, 0, none⟩) s.b.length s.b.length) ∧ W2.cell? ⟨g.R, 3, none⟩ = some (.slice (some ⟨g.N, 0, none⟩) s.q.length s.q.length) ∧ g.R < W2.heap.size := by
  have hc := keep_block h.cell hf hS
  refine ⟨?_, ?_, ?_, ?_, lt_of_block hc⟩ <;> simp [World.cell?, hc]
set_option maxHeartbeats 1000000 in
theorem rroute_any {lo : Nat} {w : World} {g : RX} {box : Nat} {s : Ps} (h : RF lo w g box s) (hb : 0 < s.b.length ∧ s.b.length ≤ 8) (k : ByteArray) (hk : k.size ≤ 9223372036854775807) : Calls Try.prog 43 #[.pointer (some ⟨g.R, 0, none⟩), .string k] w fun e w' => e = .returned (.int .i64 (rtF s.b.length k : Int)) ∧ w' = w := by
  obtain ⟨c0, c1, c2, c3, hlt⟩ := h.cells
  have HO := hid (fun W => roperator_any k (n := s.b.length) W hk hb.1 hb.2)
  clear h c0 c1 c3
  generalize s.b.length = n at *
  generalize rtF n k = r at *
  go_enter Try.func43, Try.ntmps43
  go_wp2_with fail
  refine (HO.out _).mono ?_
  rintro e w1 ⟨rfl, h9⟩
  obtain rfl : w = w1 := h9.symm
  clear h9
  go_wp2_with fail
  go_ret
  exact ⟨rfl, rfl⟩
set_option maxHeartbeats 2000000 in
theorem rtoward_any {lo : Nat} {w : World} {g : RX} {box : Nat} {s : Ps} (h : RF lo w g box s) (hw : Wf s box) (i : Int) : Calls Try.prog 28 #[.pointer (some ⟨g.R, 0, none⟩), .int .i64 i] w fun e w' => e = .returned (.tuple #[.int .i64 ((firR s i).1 : Int), .int .i64 (firR s i).2.2]) ∧ Fr w w' (fun _ => False) := by
  obtain ⟨c0, c1, c2, c3, hlt⟩ := h.cells
  by_cases hi : 0 ≤ i ∧ i < (s.q.length : Int)
  case neg =>
    rw [firR_out hi]
    have hc : i < 0 ∨ (¬ i < 0 ∧ (s.q.length : Int) ≤ i) := by omega
    clear h hi c0 c2 c3 hw
    simp only
    generalize s.q.length = m at *
    rcases hc with t1 | ⟨t1, t2⟩
    all_goals
      go_enter Try.func28, Try.ntmps28
      go_wp2_with fail
      go_ret2
      exact ⟨rfl, Fr.refl _ _⟩
  case pos =>
    obtain ⟨n, rfl⟩ : ∃ n : Nat, i = (n : Int) := ⟨i.toNat, by omega⟩
    have hn : n < s.q.length := by omega
    have t1 : ¬ (n : Int) < 0 := by omega
    have t2 : ¬ (s.q.length : Int) ≤ (n : Int) := by omega
    have t3 : (n : Int) < (s.q.length : Int) := by omega
    obtain ⟨ao, cap, hv, d0⟩ := h.q.cell (by rw [h.q.len]; exact hn)
    have hql := lt_of_block h.q.row
    cases hq : s.q.getD n [] with
    | nil =>
      rw [firR_nil hn hq]
      rw [hq] at d0
      clear h hi c0 c2 c3 hw hv hq hn
      simp only [List.length_nil] at d0
      simp only
      generalize s.q.length = m at *
      go_enter Try.func28, Try.ntmps28
      go_wp2_with fail
      go_ret2
      exact ⟨rfl, Fr.refl _ _⟩
    | cons x L =>
      rw [firR_cons hn hq]
      have hown := h.q.own n (by rw [h.q.len]; exact hn)
      rw [hq] at hown
      obtain ⟨b, cp, hv2, hl1, hl2, hbl⟩ := own_some hown
      rw [hv2] at hown
      have hh := own_head hown
      have x0 := hh 0 _ rfl
      have x1 := hh 1 _ rfl
      have x2 := hh 2 _ rfl
      have x3 := hh 3 _ rfl
      have d1 : w.cell? ⟨g.Q, n, none⟩ = some (.slice (some ⟨b, 0, none⟩) (L.length + 1) cp) := by rw [d0, ← hv, hv2]
      have hnat := h.nat (i := n) (by rw [hw.nn]; exact hn)
      have hxk : x.k.size ≤ 32 := errC_key ((hw.q n hn).2.2 x (by rw [hq]; simp))
      have HRO := hid (fun (W : World) (hW : Fr w W (fun _ => False)) => rroute_any (h.still hW) ⟨hw.nb.1, hw.nb.2⟩ x.k (by omega))
      have t4 : (((L.length + 1 : Nat) : Int) == 0) = false := by simp; omega
      have t5 : (0 : Int) < ((L.length + 1 : Nat) : Int) := by omega
      have HF := hid (alloc_fr w (.cells (elI x).toArray 33) (fun _ => False))
      have e1 : tow s n x = if x.m = true then s.n.getD n 0 else rtF s.b.length x.k := rfl
      simp only
      rw [e1]
      have HX : Hid (x.m = true ∨ x.m = false) := by
        cases h9 : x.m with
        | true => exact Or.inl rfl
        | false => exact Or.inr rfl
      clear h hi c0 c2 hw hv hq hown hv2 hh d0 e1 hn
      generalize s.q.length = m at *
      generalize s.n.getD n 0 = nx at *
      generalize rtF s.b.length x.k = rt at *
      generalize hLL : L.length + 1 = ll at *
      clear hLL
      obtain ⟨xm, xk, xt, xv⟩ := x
      simp only [elI] at *
      rcases HX.out with rfl | rfl
      · rw [if_pos rfl]
        go_enter Try.func28, Try.ntmps28
        go_wp2_with fail
        go_ret2
        exact ⟨rfl, HF.out⟩
      · rw [if_neg (by decide)]
        go_enter Try.func28, Try.ntmps28
        go_wp2_with fail
        refine (HRO.out _ HF.out).mono ?_
        rintro e w1 ⟨rfl, h9⟩
        subst h9
        go_wp2_with fail
        go_ret2
        exact ⟨rfl, HF.out⟩
set_option maxHeartbeats 4000000 in
set_option maxRecDepth 100000 in
theorem rput_any {lo : Nat} {w : World} {g : RX} {box : Nat} {s : Ps} (h : RF lo w g box s) (hlo : lo ≤ w.heap.size) (hw : Wf s box) (i : Int) (x : It) : Calls Try.prog 25 #[.pointer (some ⟨g.R, 0, none⟩), .int .i64 i, vI x] w fun e w' => e = .returned (.int .i64 (putE s i x)) ∧ RA lo w w' g box (putS s i x) := by
  obtain ⟨c0, c1, c2, c3, hlt⟩ := h.cells
  have HSM := hid (fun (W : World) (hW : Fr w W (fun _ => False)) => RA.same h hW)
  by_cases hi : 0 ≤ i ∧ i < (s.q.length : Int)
  case neg =>
    have e1 : putE s i x = 1 := by unfold putE; rw [if_pos hi]
    have e2 : putS s i x = s := by unfold putS; rw [e1, if_neg (by decide)]
    rw [e1, e2]
    have hc : i < 0 ∨ (¬ i < 0 ∧ (s.q.length : Int) ≤ i) := by omega
    clear h hi c0 c2 c3 hw e1 e2
    unfold vI
    generalize s.q.length = m at *
    rcases hc with t1 | ⟨t1, t2⟩
    all_goals
      go_enter Try.func25, Try.ntmps25
      go_wp2_with fail
      go_ret
      exact ⟨rfl, HSM.out _ ((Fr.refl _ _).alloc _)⟩
  case pos =>
    obtain ⟨n, rfl⟩ : ∃ n : Nat, i = (n : Int) := ⟨i.toNat, by omega⟩
    have hn : n < s.q.length := by omega
    have t1 : ¬ (n : Int) < 0 := by omega
    have t2 : ¬ (s.q.length : Int) ≤ (n : Int) := by omega
    have t3 : (n : Int) < (s.q.length : Int) := by omega
    have HC := hid (fun W => rmay_any x W)
    by_cases hx : errC x = 0
    case neg =>
      have e1 : putE s (n : Int) x = errC x := by unfold putE; rw [if_neg (fun h => h hi), if_pos hx]
      have e2 : putS s (n : Int) x = s := by unfold putS; rw [e1, if_neg hx]
      rw [e1, e2]
      have hx' : (errC x != 0) = true := by simpa using hx
      clear h c0 c2 c3 e1 e2 hx hi hw hn
      generalize errC x = er at *
      generalize s.q.length = m at *
      unfold vI at HC ⊢
      go_enter Try.func25, Try.ntmps25
      go_wp2_with fail
      refine (HC.out _).mono ?_
      rintro e w1 ⟨rfl, hf⟩
      have HF := hid (((Fr.refl w _).alloc _).trans hf)
      clear hf
      go_wp2_with fail
      go_ret
      exact ⟨rfl, HSM.out _ HF.out⟩
    case pos =>
      rw [hx] at HC
      have hfe := (hw.q n hn).1
      have HRF := hid h
      have HN := hid hn
      have HLO := hid hlo
      obtain ⟨ao, cap, hv, _⟩ := h.q.cell (by rw [h.q.len]; exact hn)
      have HCE : Hid (∀ W : World, Fr w W (fun _ => False) → W.cell? ⟨g.R, 1, none⟩ = some (.slice (some ⟨g.Q, 0, none⟩) s.q.length s.q.length) ∧ g.R < W.heap.size ∧ W.cell? ⟨g.Q, n, none⟩ = some (.slice ao (s.q.getD n []).length cap) ∧ g.Q < W.heap.size) := fun W hW => by
        have h' := h.still hW
        obtain ⟨ao', cap', hv', d0'⟩ := h'.q.cell (i := n) (by rw [h.q.len]; exact hn)
        rw [← hv', hv] at d0'
        exact ⟨h'.cells.2.1, h'.cells.2.2.2.2, d0', lt_of_block h'.q.row⟩
      have HV := hid hv
      by_cases hl : (s.q.getD n []).length = 65536
      · have e1 : putE s (n : Int) x = 2 := by unfold putE; rw [if_neg (fun h => h hi), if_neg (fun h => h hx), Int.toNat_natCast, if_pos (by omega)]
        have e2 : putS s (n : Int) x = s := by unfold putS; rw [e1, if_neg (by decide)]
        rw [e1, e2]
        rw [hl] at HCE
        clear h c0 c2 c3 e1 e2 hx hi hw hn hl hfe hv hlo HRF HN HV
        generalize s.q.length = m at *
        unfold vI at HC ⊢
        go_enter Try.func25, Try.ntmps25
        go_wp2_with fail
        refine (HC.out _).mono ?_
        rintro e w1 ⟨rfl, hf⟩
        have HF := hid (((Fr.refl w _).alloc _).trans hf)
        clear hf c1 hlt
        obtain ⟨c1, hlt, d0, hql⟩ := HCE.out _ HF.out
        go_wp2_with fail
        go_ret
        exact ⟨rfl, HSM.out _ HF.out⟩
      · have e1 : putE s (n : Int) x = 0 := by unfold putE; rw [if_neg (fun h => h hi), if_neg (fun h => h hx), Int.toNat_natCast, if_neg (by omega)]
        have e2 : putS s (n : Int) x = ⟨s.q.set n (s.q.getD n [] ++ [x]), s.n, s.b⟩ := by unfold putS; rw [e1, if_pos rfl, Int.toNat_natCast]
        rw [e1, e2]
        have HLL : Hid ((s.q.getD n []).length < 65536) := by show _ < _; omega
        have t4 : ¬ (65536 : Int) ≤ ((s.q.getD n []).length : Int) := by omega
        have HOWN : Hid (∀ W : World, Fr w W (fun _ => False) → W.ownsRow lo 33 4 (.slice ao (s.q.getD n []).length cap) (s.q.getD n []).length (fl elI (s.q.getD n []))) := fun W hW => by
          have := (h.still hW).q.own n (by rw [h.q.len]; exact hn)
          rw [hv] at this
          exact this
        clear h c0 c2 c3 e1 e2 hx hi hw hn hl hfe hv hlo
        generalize hLq : s.q.getD n [] = Lq at *
        have HLQ := hid hLq
        clear hLq
        generalize hm : s.q.length = m at *
        have HM := hid hm
        clear hm
        generalize hll : Lq.length = ll at *
        have HLE := hid hll
        clear hll
        have t5 : decide ((65536 : Int) ≤ (ll : Int)) = false := decide_eq_false (by omega)
        clear t4
        unfold vI at HC ⊢
        go_enter Try.func25, Try.ntmps25
        go_wp2_with fail
        refine (HC.out _).mono ?_
        rintro e w1 ⟨rfl, hf⟩
        have HF := hid (((Fr.refl w _).alloc _).trans hf)
        have HX := hid (keep_block (RI.new_el (w := w) (T := 33) (x := x) rfl) hf (fun h => h))
        clear hf c1 hlt
        obtain ⟨c1, hlt, d0, hql⟩ := HCE.out _ HF.out
        obtain ⟨x0, x1, x2, x3⟩ := RI.el_cells HX.out
        have hxl := lt_of_block HX.out
        have HRS := hid HF.out.size
        have HNEW : Hid (∀ j u, (fl elI [x])[j]? = some u → (w1.alloc (.cells (elI x).toArray 33)).drew.cell? ((⟨w1.heap.size, 0, none⟩ : Addr).add j) = some u) := fun j u hj => by
          have hb : (w1.alloc (.cells (elI x).toArray 33)).drew.heap[w1.heap.size]? = some (.cells (elI x).toArray 33 (0, 0)) := heap_last w1 _ _ rfl
          rw [Addr.add_lit, Nat.zero_add, cell_of_row _ w1.heap.size j _ _ (0, 0) hb]
          simpa [fl] using hj
        have HLS : Hid (lo ≤ (w1.alloc (.cells (elI x).toArray 33)).drew.heap.size) := by have := HLO.out; have := HRS.out; show lo ≤ (w1.alloc (.cells (elI x).toArray 33)).heap.size; simp; omega
        generalize w.heap.size = N at HX x0 x1 x2 x3 hxl ⊢
        go_wp2_with fail
        go_region_law (refine step_app kdI rfl (.tmp 44) (.tmp 46) rfl (lo := lo) (v := .slice ao ll cap) (L := Lq) (by first | rfl | simp [Act.eval, Act.put]) (by rw [HLE.out]; exact HOWN.out _ (HF.out.trans (alloc_fr _ _ _).drew)) ⟨w1.heap.size, 0, none⟩ 1 1 [x] (by first | rfl | simp [Act.eval, Act.put]) rfl HNEW.out (by have := HLL.out; have := HLE.out; omega) HLS.out (ll + 1) (by rw [HLE.out]) ?_; intro ao2 cap2 w2 H1 H2 H3; have HST := hid ((HRF.out.still HF.out).setQ (by rw [HM.out]; exact HN.out) (by rw [HV.out]; exact ((alloc_fr w1 (.cells (elI x).toArray 33) _).drew).trans H2.out) H1.out (by rw [HV.out]; exact H3.out.lower (by simp))); have hR2 := (HRF.out.still HF.out).cells2 (((alloc_fr w1 (.cells (elI x).toArray 33) _).drew).trans H2.out) (fun e => own_ne (HOWN.out _ HF.out) (HRF.out.still HF.out).cell (by decide) e); rw [HM.out] at hR2; obtain ⟨⟨u9, hu9⟩, hfz9, hQ9, _⟩ := HST.out; obtain ⟨_, r1, _, _, r5⟩ := hR2)
        all_goals
          go_wp2_with fail
          go_ret
          refine ⟨rfl, RA.pre HF.out ?_⟩
          exact HST.out.2.2.2
end Go.Proofs.Ytlgbciibhmcokaa
