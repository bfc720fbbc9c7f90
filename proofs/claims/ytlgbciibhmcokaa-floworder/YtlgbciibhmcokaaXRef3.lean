/- The document's flow: Take: a walk. -/
import Derived.Test.YtlgbciibhmcokaaXRef2
import Derived.Test.YtlgbciibhmcokaaXRoomP
namespace Go.Proofs.Ytlgbciibhmcokaa
open Go.RowKit

theorem pop_fr {W Wa w2 : World} {M : Nat} (hA : Fr W Wa (fun _ => False)) (hM : W.heap.size ≤ M) (h2 : Fr Wa w2 (fun k => (Value.slice (some ⟨M, 0, none⟩) 0 0).ownBlock = some k)) (S : Nat → Prop) : Fr W w2 S :=
  (hA.mono (T := S) (fun _ _ h => h.elim)).trans2 h2 (fun k hk e => by simp [Value.ownBlock] at e; omega)
theorem pop_nw {W Wa : World} {M : Nat} {v v' : Value} (hA : Fr W Wa (fun _ => False)) (hM : W.heap.size ≤ M) (h3 : Nw Wa (Value.slice (some ⟨M, 0, none⟩) 0 0) v') : Nw W v v' := fun k hk => by
  have := hA.size
  rcases h3 k hk with h | h
  · simp [Value.ownBlock] at h; exact Or.inr (by omega)
  · exact Or.inr (by omega)
/-- An empty slice literal. -/
theorem own_lit0 {α : Type} (f : α → List Value) (W : World) (T : TypeId) (K lo : Nat) (hlo : lo ≤ W.heap.size) : (W.alloc (.cells #[] T)).drew.ownsRow lo T K (.slice (some ⟨W.heap.size, 0, none⟩) 0 0) ([] : List α).length (fl f []) :=
  ⟨by simp [fl], Or.inr ⟨W.heap.size, 0, #[], rfl, hlo, heap_last W _ _ rfl, Nat.le_refl _, Nat.zero_le _, by simp, by simp [fl]⟩⟩
set_option maxHeartbeats 8000000 in
set_option maxRecDepth 100000 in
theorem rtake_any {lo : Nat} {w : World} {g : RX} {box : Nat} {s : Ps} (h : RF lo w g box s) (hlo : lo ≤ w.heap.size) (hw : Wf s box) (i : Int) : Calls Try.prog 27 #[.pointer (some ⟨g.R, 0, none⟩), .int .i64 i] w fun e w' => e = .returned (.tuple #[.int .i64 (takR s i).1.s, vI (takR s i).1.x, .int .i64 (takR s i).2]) ∧ RA lo w w' g box (takS s i) := by
  obtain ⟨c0, c1, c2, c3, hlt⟩ := h.cells
  have HSM := hid (fun (W : World) (hW : Fr w W (fun _ => False)) => RA.same h hW)
  by_cases hi : 0 ≤ i ∧ i < (s.b.length : Int)
  case neg =>
    have e1 : takR s i = (ms0, 1) := by unfold takR; rw [if_pos hi]
    have e2 : takS s i = s := by unfold takS; rw [if_pos hi]
    rw [e1, e2]
    have hc : i < 0 ∨ (¬ i < 0 ∧ (s.b.length : Int) ≤ i) := by omega
    clear h hi c0 c1 c3 hw e1 e2
    simp only
    generalize s.b.length = m at *
    rcases hc with t1 | ⟨t1, t2⟩
    all_goals
      go_enter Try.func27, Try.ntmps27
      go_wp2_with fail
      refine bodyPost_ret (resT (x := it0) Try.results27 _ _ rfl (RI.new_el rfl)) rfl ⟨rfl, HSM.out _ ((Fr.refl _ _).alloc _)⟩
  case pos =>
    obtain ⟨n, rfl⟩ : ∃ n : Nat, i = (n : Int) := ⟨i.toNat, by omega⟩
    have hn : n < s.b.length := by omega
    have t1 : ¬ (n : Int) < 0 := by omega
    have t2 : ¬ (s.b.length : Int) ≤ (n : Int) := by omega
    have t3 : (n : Int) < (s.b.length : Int) := by omega
    obtain ⟨ao, cap, hv, d0⟩ := h.b.cell (by rw [h.b.len]; exact hn)
    have hql := lt_of_block h.b.row
    cases hq : s.b.getD n [] with
    | nil =>
      have e1 : takR s (n : Int) = (ms0, 44) := by unfold takR; rw [if_neg (fun h => h hi), Int.toNat_natCast, hq]
      have e2 : takS s (n : Int) = s := (tak_none (by rw [lenAt_nat hn, hq]; simp)).2
      rw [e1, e2]
      rw [hq] at d0
      have HCE : Hid (∀ W : World, Fr w W (fun _ => False) → W.cell? ⟨g.R, 2, none⟩ = some (.slice (some ⟨g.X, 0, none⟩) s.b.length s.b.length) ∧ g.R < W.heap.size ∧ W.cell? ⟨g.X, n, none⟩ = some (.slice ao 0 cap) ∧ g.X < W.heap.size) := fun W hW => by
        have hr := (fr_rules hW).1
        exact ⟨by rw [hr _ _ hlt]; exact c2, by have := hW.size; omega, by rw [hr _ _ hql]; simpa using d0, by have := hW.size; omega⟩
      clear h hi c0 c1 c3 hw hv hq hn e1 e2 d0
      simp only
      generalize s.b.length = m at *
      obtain ⟨c2', hlt', d0', hql'⟩ := HCE.out (w.alloc (.cells (elI it0).toArray 33)) (alloc_fr _ _ _)
      go_enter Try.func27, Try.ntmps27
      have hB : Hid ((w.alloc (.cells (elI it0).toArray 33)).heap[w.heap.size]? = some (.cells (elI it0).toArray 33 (0, 0))) := RI.new_el rfl
      have HF := hid (alloc_fr w (.cells (elI it0).toArray 33) (fun _ => False))
      have d00 : w.cell? ⟨g.X, n, none⟩ = some (.slice ao 0 cap) := (HCE.out w (Fr.refl _ _)).2.2.1
      go_wp2_with fail
      refine bodyPost_ret (resT (x := it0) Try.results27 _ _ rfl (RI.new_el rfl)) rfl ⟨rfl, HSM.out _ ((Fr.refl _ _).alloc _)⟩
    | cons x L =>
      have e1 : takR s (n : Int) = (x, 0) := by unfold takR; rw [if_neg (fun h => h hi), Int.toNat_natCast, hq]
      have e2 : takS s (n : Int) = ⟨s.q, s.n, s.b.set n L⟩ := by unfold takS; rw [if_neg (fun h => h hi), Int.toNat_natCast, hq]; rfl
      rw [e1, e2]
      have hown := h.b.own n (by rw [h.b.len]; exact hn)
      rw [hq] at hown
      obtain ⟨b, cp, hv2, hl1, hl2, hbl⟩ := own_some hown
      rw [hv2] at hown
      have hlen := hw.b n hn
      rw [hq] at hlen
      have hbx := hw.bx.2
      have HOWN : Hid (∀ W : World, Fr w W (fun _ => False) → W.ownsRow lo 94 5 (.slice (some ⟨b, 0, none⟩) (L.length + 1) cp) (x :: L).length (fl elM (x :: L))) := fun W hW => own_fr hown hW (fun _ _ h => h)
      have HC1 : Hid (∀ W : World, Fr w W (fun _ => False) → (W.cell? ⟨g.R, 2, none⟩ = some (.slice (some ⟨g.X, 0, none⟩) s.b.length s.b.length) ∧ g.R < W.heap.size ∧ W.cell? ⟨g.X, n, none⟩ = some (.slice (some ⟨b, 0, none⟩) (L.length + 1) cp) ∧ g.X < W.heap.size) ∧ W.cell? ⟨b, 0, none⟩ = some (.int .i64 x.s) ∧ W.cell? ⟨b, 1, none⟩ = some (.bool x.x.m) ∧ W.cell? ⟨b, 2, none⟩ = some (.string x.x.k) ∧ W.cell? ⟨b, 3, none⟩ = some (.int .i64 x.x.t) ∧ W.cell? ⟨b, 4, none⟩ = some (.int .i64 x.x.v) ∧ b < W.heap.size) := fun W hW => by
        have hr := (fr_rules hW).1
        have hh := own_head (own_fr hown hW (fun _ _ h => h))
        have hs := hW.size
        exact ⟨⟨by rw [hr _ _ hlt]; exact c2, by omega, by rw [hr _ _ hql, d0, ← hv, hv2], by omega⟩, hh 0 _ rfl, hh 1 _ rfl, hh 2 _ rfl, hh 3 _ rfl, hh 4 _ rfl, by omega⟩
      have t4 : (((L.length + 1 : Nat) : Int) == 0) = false := by simp; omega
      have t5 : (0 : Int) < ((L.length + 1 : Nat) : Int) := by omega
      have HRF := hid h
      have HN := hid hn
      have HLO0 := hid hlo
      have HLL : Hid (L.length + 1 ≤ 64) := by simp at hlen; show _ ≤ _; omega
      have HL1 := hid hl1
      clear h hi c0 c1 c2 c3 hw hv hq hn e1 e2 d0 hown hv2 hlen hbx hlt hql hbl
      simp only
      go_enter Try.func27, Try.ntmps27
      obtain ⟨⟨c2, hlt, d0, hql⟩, x0, x1, x2, x3, x4, hbl⟩ := HC1.out w (Fr.refl _ _)
      generalize hm : s.b.length = m at *
      have HM := hid hm
      clear hm
      go_upto_region 6 with fail
      have hA1 := alloc_fr w (.cells (elI it0).toArray 33) (fun _ => False)
      have hA2 := hA1.alloc (.cells (elM x).toArray 94)
      have HF := hid hA2
      have HB : Hid (((w.alloc (.cells (elI it0).toArray 33)).alloc (.cells (elM x).toArray 94)).heap[w.heap.size]? = some (.cells (elI it0).toArray 33 (0, 0))) := keep_block (RI.new_el rfl) (alloc_fr _ _ (fun _ => False)) (fun h => h)
      have HMB : Hid (((w.alloc (.cells (elI it0).toArray 33)).alloc (.cells (elM x).toArray 94)).heap[w.heap.size + 1]? = some (.cells (elM x).toArray 94 (0, 0))) := heap_last _ _ _ (by simp)
      have HSZ : Hid (∀ k, g.ow k → k < w.heap.size) := fun k hk => HRF.out.lt hk
      clear hA1 hA2 c2 hlt d0 hql x0 x1 x2 x3 x4 hbl
      have HLS0 : Hid (lo ≤ ((w.alloc (.cells (elI it0).toArray 33)).alloc (.cells (elM x).toArray 94)).heap.size) := by have := HLO0.out; have := HF.out.size; show _ ≤ _; omega
      have HFP : Hid (∀ (W : World) (y : It), Fr ((w.alloc (.cells (elI it0).toArray 33)).alloc (.cells (elM x).toArray 94)) W (fun k => g.ow k ∨ k = w.heap.size) → Fr ((w.alloc (.cells (elI it0).toArray 33)).alloc (.cells (elM x).toArray 94)) (RI.puts W w.heap.size 0 y) (fun k => g.ow k ∨ k = w.heap.size)) := fun W y h => RI.puts_fr h (fun _ => Or.inr rfl) y
      unfold elM elI at HF HB HMB HLS0 HFP
      simp only [it0] at HF HB HMB HLS0 HFP
      generalize (World.alloc (World.alloc w _) _) = W2 at *
      have HNN : Hid (w.heap.size ≤ w.heap.size) := Nat.le_refl _
      generalize hNN : w.heap.size = N at HB HMB HSZ HFP HNN ⊢
      have HWN := hid hNN
      clear hNN
      have HRFx : Hid (RF lo W2 g box s) := HRF.out.still HF.out
      have HNx := HN
      replace HNx : Hid (n < s.b.length) := by show _ < _; rw [HM.out]; exact HN.out
      have HMx := HM
      have HLO := HLS0
      obtain ⟨⟨c2, hlt, d0, hql⟩, x0, x1, x2, x3, x4, hbl⟩ := HC1.out W2 HF.out
      have HOW2 := hid (HOWN.out W2 HF.out)
      generalize hll : L.length = ll at *
      have HLE : Hid (L.length = ll) := hll
      clear hll HC1 HOWN x0 x1 x2 x3 x4
      have HLS : Hid (lo ≤ (W2.alloc (.cells #[] 94)).drew.heap.size) := by have := HLO.out; show lo ≤ (W2.alloc (.cells #[] 94)).heap.size; simp; omega
      have s1 : (1 : Int) ≤ (ll : Int) + 1 := by omega
      have s0 : (0 : Int) ≤ (ll : Int) + 1 := by omega
      go_cut [53] (fun _s53 wx => Hid (RA lo W2 wx g box ⟨s.q, s.n, s.b.set n L⟩))
      case first =>
        by_cases hcp : cp = 1
        · have hl0 : ll = 0 := by have h1 := HL1.out; have h2 := HLE.out; omega
          obtain ⟨AD, hAD⟩ : ∃ AD : Addr, AD = ⟨b, 0, none⟩ := ⟨_, rfl⟩
          obtain ⟨SC, hSC⟩ : ∃ SC : Nat, SC = 0 := ⟨_, rfl⟩
          have HSRC : Hid (∀ j u, (fl elM L)[j]? = some u → (W2.alloc (.cells #[] 94)).drew.cell? (AD.add j) = some u) := fun j u hj => by
            have : L = [] := List.eq_nil_of_length_eq_zero (by rw [HLE.out]; exact hl0)
            rw [this] at hj; simp [fl] at hj
          subst hAD hSC hcp hl0
          go_region_law (refine step_app kdM rfl (.tmp 44) (.tmp 52) rfl (lo := lo) (v := .slice (some ⟨W2.heap.size, 0, none⟩) 0 0) (L := []) (by first | rfl | simp [Act.eval, Act.put]) (own_lit0 elM W2 94 5 lo HLO.out) ⟨b, 0, none⟩ 0 (0) L (by first | rfl | simp [Act.eval, Act.put]) HLE.out HSRC.out (by have := HLL.out; first | (simp; done) | (simp; omega)) HLS.out 0 (by simp) ?_; intro ao2 cap2 w9 H1 H2 H3; have HST := hid (HRFx.out.setX HNx.out (pop_fr (alloc_fr W2 (.cells #[] 94) _).drew (Nat.le_refl _) H2.out _) H1.out (pop_nw (alloc_fr W2 (.cells #[] 94) (fun _ => False)).drew (Nat.le_refl _) H3.out)); have hR2 := HRFx.out.cells2 (pop_fr (alloc_fr W2 (.cells #[] 94) _).drew (Nat.le_refl _) H2.out (fun _ => False)) (fun e => e); obtain ⟨⟨u9, hu9⟩, hfz9, hQ9, _⟩ := HST.out; obtain ⟨_, r1, r2, _, r5⟩ := hR2; rw [HMx.out] at r2)
          all_goals
            go_wp2_with fail
            go_meet
            exact HST.out.2.2.2
        · have HSRC : Hid (∀ j u, (fl elM L)[j]? = some u → (W2.alloc (.cells #[] 94)).drew.cell? ((⟨b, 5, none⟩ : Addr).add j) = some u) := own_src elM_len (L := x :: L) (own_fr HOW2.out (alloc_fr W2 (.cells #[] 94) (fun _ => False)).drew (fun _ _ h => h))
          go_region_law (refine step_app kdM rfl (.tmp 44) (.tmp 52) rfl (lo := lo) (v := .slice (some ⟨W2.heap.size, 0, none⟩) 0 0) (L := []) (by first | rfl | simp [Act.eval, Act.put]) (own_lit0 elM W2 94 5 lo HLO.out) ⟨b, 5, none⟩ ll (cp - 1) L (by first | rfl | simp [Act.eval, Act.put]) HLE.out HSRC.out (by have := HLL.out; first | (simp; done) | (simp; omega)) HLS.out ll (by simp) ?_; intro ao2 cap2 w9 H1 H2 H3; have HST := hid (HRFx.out.setX HNx.out (pop_fr (alloc_fr W2 (.cells #[] 94) _).drew (Nat.le_refl _) H2.out _) H1.out (pop_nw (alloc_fr W2 (.cells #[] 94) (fun _ => False)).drew (Nat.le_refl _) H3.out)); have hR2 := HRFx.out.cells2 (pop_fr (alloc_fr W2 (.cells #[] 94) _).drew (Nat.le_refl _) H2.out (fun _ => False)) (fun e => e); obtain ⟨⟨u9, hu9⟩, hfz9, hQ9, _⟩ := HST.out; obtain ⟨_, r1, r2, _, r5⟩ := hR2; rw [HMx.out] at r2)
          all_goals
            go_wp2_with fail
            go_meet
            exact HST.out.2.2.2
      case rest =>
        have HRA := hcut
        clear hcut c2 hlt d0 hql hbl
        have hfrA : Fr W2 wc g.ow := by obtain ⟨g', _, _, _, h5⟩ := HRA.out; exact h5
        have HB3 := hid (keep_block HB.out hfrA (fun h => absurd (HSZ.out _ h) (Nat.lt_irrefl _)))
        have HM3 := hid (keep_block HMB.out hfrA (fun h => by have := HSZ.out _ h; omega))
        clear hfrA
        obtain ⟨x0, x1, x2, x3, x4⟩ := RM.el_cells (x := x) HM3.out
        obtain ⟨i0, i1, i2, i3⟩ := RI.el_cells (x := it0) HB3.out
        have hfz := free_of HB3.out
        have hNl := lt_of_block HB3.out
        have hMl := lt_of_block HM3.out
        go_wp2_with fail
        go_region
        go_wp2_with fail
        have hp := RI.puts_new (y := it0) HB3.out x.x
        refine bodyPost_ret (resT (x := x.x) Try.results27 _ _ rfl hp) rfl ⟨rfl, ?_⟩
        obtain ⟨g', h1, h2, h4, h5⟩ := HRA.out
        have hs2 := HF.out.size
        refine ⟨g', h1, h2.step (RI.puts_fr1 _ _ _ _).drew (fun k hk e => ?_), fun k hk => (h4 k hk).imp id (fun h => by omega), ?_⟩
        · subst e
          rcases h4 _ hk with h | h
          · exact absurd (HSZ.out _ h) (Nat.lt_irrefl _)
          · have := lt_of_block HB.out; omega
        · exact (HF.out.mono (T := g.ow) (fun _ _ h => h.elim)).trans2 ((h5.mono (T := fun k => g.ow k ∨ k = N) (fun _ _ h => Or.inl h)).trans2 (RI.puts_fr1 wc N 0 x.x).drew (fun _ _ h => Or.inr h)) (fun k hk e => by
            rcases e with e | e
            · exact e
            · have := HWN.out; omega)
end Go.Proofs.Ytlgbciibhmcokaa
