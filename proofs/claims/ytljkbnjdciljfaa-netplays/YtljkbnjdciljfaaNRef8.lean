/- net: the document's net: Bring: a walk. -/
import Derived.Test.YtljkbnjdciljfaaNRef7
namespace Go.Proofs.Ytljkbnjdciljfaa
open Go.RowKit
attribute [local go_sem ↓] Go.wp_at_zero Go.wp_at_succ

set_option maxHeartbeats 8000000 in
set_option maxRecDepth 100000 in
theorem rbring_any {W : World} {lo : Nat} {g : Rx} {s : Np} (h : RN W lo g s) (hsm : s.m ≤ 70368744177664) (c most : Int) : Calls Try.prog 38 #[.pointer (some ⟨g.G, 0, none⟩), .int .i64 c, .int .i64 most] W fun e w' => e = .returned (.tuple #[.int .i64 (bringK s c most : Int), .int .i64 (findE s c)]) ∧ RNA W w' lo g (bringS s c most) := by
  have HG := hid (gone_any h c false)
  rw [goneG_find] at HG
  rcases find_c s c with ⟨h1, _, _, h2⟩ | ⟨n, x, rfl, k1, k2, hx, h1⟩
  · rw [(h2 most).1, (h2 most).2.1]
    have hb : (findE s c != 0) = true := by simpa using h1
    generalize findE s c = E at *
    have HK := hid (fun w1 (hf : Fr W w1 (fun _ => False)) => h.keep hf)
    clear h h2
    go_enter Try.func38, Try.ntmps38
    go_wp2_with fail
    refine HG.out.mono ?_
    rintro e w1 ⟨rfl, hf⟩
    have HF := hid hf
    clear hf HG
    go_wp2
    go_ret2
    exact ⟨rfl, HK.out _ HF.out⟩
  · rw [h1] at HG ⊢
    have HW : Hid (∀ w1, Fr W w1 (fun _ => False) → RN w1 lo g s) := fun w1 hf => h.still hf
    have HC := hid (fun w1 (h1 : RN w1 lo g s) => h1.co (n := n) (by omega))
    rw [c_of hx] at HC
    have HCE := hid (fun w1 (h1 : RN w1 lo g s) => h1.cells)
    have hwa := wf_at h.wf (c := (n : Int)) (by rw [at_of (isC_of k1 k2)]; exact hx)
    have hwb := h.wf.a
    have t0 : (0 : Int) ≤ (n : Int) := by omega
    have t1 : (n : Int) < 65 := by omega
    have hgl := h.gl
    obtain ⟨e1, e2⟩ := (one_of k1 k2 hx).bring most
    rw [e1]
    obtain ⟨r, hr⟩ : ∃ r : Nat, s.a - x.i.length = r := ⟨_, rfl⟩
    rw [hr] at e2 ⊢
    have HPT := hid (fun w1 => part_any x.w.length r most w1)
    have hkw : partN x.w.length r most ≤ x.w.length := by unfold partN; omega
    have hkr : partN x.w.length r most ≤ r := by unfold partN; omega
    obtain ⟨k, hk⟩ : ∃ k : Nat, partN x.w.length r most = k := ⟨_, rfl⟩
    rw [hk] at e2 hkw hkr HPT ⊢
    have hil : x.i.length ≤ s.a := hwa.1
    have hwl : x.w.length ≤ 1048576 := hwa.2.1
    have HS : Hid (∀ w1 wj v3 v4, RN w1 lo g s → Fr w1 wj (fun _ => False) → Rw wj lo 5 v3 (x.w.drop k) → (∀ q, v3.ownBlock = some q → w1.heap.size ≤ q) → Rw wj lo 5 v4 (x.i ++ x.w.take k) → (∀ q, v4.ownBlock = some q → w1.heap.size ≤ q) → RNA w1 ((((((((wj.setCell ⟨g.L, n * 7, none⟩ (.bool true)).setCell ⟨g.L, n * 7 + 1, none⟩ (.bool x.cl)).setCell ⟨g.L, n * 7 + 2, none⟩ (.bool x.ct)).setCell ⟨g.L, n * 7 + 3, none⟩ v3).setCell ⟨g.L, n * 7 + 4, none⟩ v4).setCell ⟨g.L, n * 7 + 5, none⟩ (g.cv n 5)).setCell ⟨g.L, n * 7 + 6, none⟩ (g.cv n 6)).setCell ⟨g.G, 3, none⟩ (.int .i64 ((s.m : Int) + (k : Int)))) lo g (bringS s n most)) := fun w1 wj v3 v4 h1 hj a1 a2 a3 a4 => by
      have hold := fun j h3 h7 => h1.ls n j (by omega) h3 h7
      rw [c_of hx] at hold
      refine RN.full h1 hj (n := n) (x := x) (u := fun j => if j = 3 then v3 else if j = 4 then v4 else g.cv n j) (by omega) e2 (wf_bring h1.wf _ _) rfl rfl (four ⟨a1, fun q hq => Or.inr (a2 q hq)⟩ ⟨a3, fun q hq => Or.inr (a4 q hq)⟩ ⟨(hold 5 (by omega) (by omega)).fr hj (fun _ _ h => h), fun q hq => Or.inl ⟨5, by omega, by omega, hq⟩⟩ ⟨(hold 6 (by omega) (by omega)).fr hj (fun _ _ h => h), fun q hq => Or.inl ⟨6, by omega, by omega, hq⟩⟩)
    have hxi : x.i.length ≤ 131072 := by omega
    have hkr2 : k ≤ 131072 := by omega
    obtain ⟨SA, hSA⟩ : ∃ b, s.a = b := ⟨_, rfl⟩
    rw [hSA] at hr hil HCE
    have hwr : IntKind.i64.wrap ((SA : Int) - (x.i.length : Int)) = (r : Int) := by rw [show (SA : Int) - (x.i.length : Int) = (r : Int) from by omega]; exact wrap_fit (by unfold fits; omega)
    have HTH : Hid ((s.c n).isSome = true) := by rw [hx]; rfl
    clear h h1 e1 e2 hx hwa hwb hk hr hSA hil hkr
    generalize bringS s n most = s' at *
    go_enter Try.func38, Try.ntmps38
    go_wp2_with fail
    refine HG.out.mono ?_
    rintro e w1 ⟨rfl, hf⟩
    have HF := hid hf
    have HR := hid (HW.out _ hf)
    obtain ⟨g0, g1, g2, g3, gf, gl⟩ := HCE.out _ HR.out
    obtain ⟨c0, c1, c2, ⟨a3, q3, a4, q4, a5, q5, a6, q6, c3, c4, c5, c6, r3, r4, r5, r6, p3, p4, p5, p6⟩, fz, hl⟩ := HC.out _ HR.out
    rw [HTH.out] at c0
    have HLO : Hid (lo ≤ w1.heap.size) := HR.out.lo.2.2
    have HPR := hid (fun wj v3 v4 (h3 : Fr w1 wj (fun _ => False)) h4 h5 h6 h7 => RNA.pre HF.out (HS.out w1 wj v3 v4 HR.out h3 h4 h5 h6 h7))
    rw [r5, r6] at HPR
    have HP3 := hid p3
    have HP4 := hid p4
    clear HS HG HW hf HF HTH r3 r4 r5 r6 p3 p4 p5 p6
    obtain ⟨XW, hXW⟩ : ∃ X, x.w.length = X := ⟨_, rfl⟩
    obtain ⟨XI, hXI⟩ : ∃ X, x.i.length = X := ⟨_, rfl⟩
    have HXW := hid hXW
    have HXI := hid hXI
    rw [hXW] at c3 HP3 hwl hkw HPT
    rw [hXI] at c4 HP4 hxi hwr
    clear hXW hXI
    generalize x.o.length = XO at *
    generalize x.h.length = XH at *
    have HJ4 : Hid (∀ w2, Fr w1 w2 (fun _ => False) → Calls Try.prog 66 #[.slice a4 XI q4, .slice a3 k q3] w2 fun e w' => ∃ v cap, e = .returned (.slice v (XI + k) cap) ∧ Rw w' lo 5 (.slice v (XI + k) cap) (x.i ++ x.w.take k) ∧ (∀ q, (Value.slice v (XI + k) cap).ownBlock = some q → w1.heap.size ≤ q) ∧ Fr w2 w' (fun _ => False)) := fun w2 hf2 => by
      refine (join_any (lo := lo) w2 (rw_bsR (HP4.out.fr hf2 (fun _ _ h => h)) HXI.out).1 (bs_take (rw_bsR (HP3.out.fr hf2 (fun _ _ h => h)) HXW.out).1 k (by rw [HXW.out]; exact hkw)) HXI.out (by rw [List.length_take]; have := HXW.out; omega) (by omega) (Nat.le_trans HLO.out hf2.size)).mono ?_
      rintro e w' ⟨v, cap, he, h3, h4, h5⟩
      exact ⟨v, cap, he, h3, fun q hq => by have := h4 q hq; have := hf2.size; omega, h5⟩
    have HJ3 : Hid (∀ w2, Fr w1 w2 (fun _ => False) → Calls Try.prog 66 #[.slice (sa k a3 q3) (XW - k) (q3 - k), .slice none 0 0] w2 fun e w' => ∃ v cap, e = .returned (.slice v (XW - k) cap) ∧ Rw w' lo 5 (.slice v (XW - k) cap) (x.w.drop k) ∧ (∀ q, (Value.slice v (XW - k) cap).ownBlock = some q → w1.heap.size ≤ q) ∧ Fr w2 w' (fun _ => False)) := fun w2 hf2 => by
      have hb := bs_from (HP3.out.fr hf2 (fun _ _ h => h)) HXW.out.symm k hkw
      refine (join_any (lo := lo) w2 hb.1 (Or.inl ⟨rfl, rfl⟩ : Bs w2 (.slice none 0 0) []) hb.2.symm rfl (by omega) (Nat.le_trans HLO.out hf2.size)).mono ?_
      rintro e w' ⟨v, cap, he, h3, h4, h5⟩
      rw [List.append_nil] at h3
      exact ⟨v, cap, he, h3, fun q hq => by have := h4 q hq; have := hf2.size; omega, h5⟩
    have HG5 : Hid (∀ wj, Fr w1 wj (fun _ => False) → wj.cell? ⟨g.G, 0, none⟩ = some (.int .i64 (SA : Int)) ∧ wj.cell? ⟨g.G, 2, none⟩ = some (.slice (some ⟨g.L, 0, none⟩) 65 65) ∧ wj.cell? ⟨g.G, 3, none⟩ = some (.int .i64 (s.m : Int)) ∧ wj.frozen? ⟨g.G, 3, none⟩ = false ∧ g.G < wj.heap.size ∧ g.L < wj.heap.size) := fun wj hf => by
      obtain ⟨a, b, c, d, e, f⟩ := HCE.out wj (HR.out.still hf)
      exact ⟨a, c, d, e _, f, (HC.out wj (HR.out.still hf)).lt⟩
    have HL5 : Hid (∀ wj, Fr w1 wj (fun _ => False) → (∃ u, wj.cell? ⟨g.L, n * 7, none⟩ = some u) ∧ (∃ u, wj.cell? ⟨g.L, n * 7 + 1, none⟩ = some u) ∧ (∃ u, wj.cell? ⟨g.L, n * 7 + 2, none⟩ = some u) ∧ (∃ u, wj.cell? ⟨g.L, n * 7 + 3, none⟩ = some u) ∧ (∃ u, wj.cell? ⟨g.L, n * 7 + 4, none⟩ = some u) ∧ (∃ u, wj.cell? ⟨g.L, n * 7 + 5, none⟩ = some u) ∧ (∃ u, wj.cell? ⟨g.L, n * 7 + 6, none⟩ = some u) ∧ ∀ o, wj.frozen? ⟨g.L, o, none⟩ = false) := fun wj hf => by
      obtain ⟨k0, k1, k2, ⟨_, _, _, _, _, _, _, _, k3, k4, k5, k6, _⟩, kz, _⟩ := HC.out wj (HR.out.still hf)
      exact ⟨⟨_, k0⟩, ⟨_, k1⟩, ⟨_, k2⟩, ⟨_, k3⟩, ⟨_, k4⟩, ⟨_, k5⟩, ⟨_, k6⟩, kz⟩
    have hm1 : (s.m : Int) ≤ 70368744177664 := by omega
    have hq3 := (rw_bsR HP3.out HXW.out).2.1
    have hk3 : (k : Int) ≤ (q3 : Int) := by omega
    have hk0 : (0 : Int) ≤ (k : Int) := by omega
    have hsl := fun w9 => slice_run (W := w9) a3 XW q3 k hkw
    clear HC HCE HR HXW HXI HP3 HP4 HLO hsm
    generalize x.cl = bcl at *
    generalize x.ct = bct at *
    generalize s.m = SM at *
    go_upto_region 5 with fail
    have HB := hid (Bx7.new w1 (.bool true) (.bool bcl) (.bool bct) (.slice a3 XW q3) (.slice a4 XI q4) (.slice a5 XO q5) (.slice a6 XH q6))
    have HF1 : Hid (Fr w1 (w1.alloc (.cells #[.bool true, .bool bcl, .bool bct, .slice a3 XW q3, .slice a4 XI q4, .slice a5 XO q5, .slice a6 XH q6] 99)) (fun _ => False)) := alloc_fr w1 _ _
    generalize w1.alloc (.cells #[.bool true, .bool bcl, .bool bct, .slice a3 XW q3, .slice a4 XI q4, .slice a5 XO q5, .slice a6 XH q6] 99) = w2 at *
    clear g0 g1 g2 g3 gf gl c0 c1 c2 c3 c4 c5 c6 fz hl
    obtain ⟨g0, -, -, -, gl, -⟩ := HG5.out _ HF1.out
    obtain ⟨-, -, -, b3, b4, -, -, bl, -⟩ := HB.out.cells
    generalize hN9 : w1.heap.size = N at *
    have HN9 := hid hN9
    clear hN9
    go_region_held3 (fun W' => W'.cell? ⟨g.G, 0, none⟩ = some (.int .i64 (SA : Int)) ∧ W'.cell? ⟨N, 3, none⟩ = some (.slice a3 XW q3) ∧ W'.cell? ⟨N, 4, none⟩ = some (.slice a4 XI q4) ∧ g.G < W'.heap.size ∧ N < W'.heap.size)
      (go_keep)
      ((go_at_call 67; refine (HPT.out _).mono ?_; rintro e wp ⟨rfl, rfl⟩))
    all_goals
      clear g0 gl b3 b4 bl hwr HPT
      have HF2 := hid HF1.out.drew
      have HB2 := hid (HB.out.fr (Fr.refl w2 (fun _ => False)).drew (fun h => h))
      clear HB HF1
      generalize w2.drew = w3 at *
      obtain ⟨-, -, -, b3, b4, -, -, bl, -⟩ := HB2.out.cells
      have HST : Hid (∀ (wa wb : World) (v : Value), Fr w1 wa (fun _ => False) → Fr wa wb (fun _ => False) → Fr w1 (wb.setCell ⟨N, 4, none⟩ v) (fun _ => False) ∧ Fr w1 (wb.setCell ⟨N, 3, none⟩ v) (fun _ => False)) := fun wa wb v h1 h2 => ⟨(h1.trans h2).setCell (fun h => absurd HN9.out (by simp at h; omega)) v, (h1.trans h2).setCell (fun h => absurd HN9.out (by simp at h; omega)) v⟩
      go_wp2_with fail
      go_region_with
        ((go_at_call 66; refine (HJ4.out _ HF2.out.drew).mono ?_; rintro e wj ⟨v4, cap4, rfl, hv4, hvn4, hf4⟩; have HBj := hid ((HB2.out.fr (Fr.refl w3 (fun _ => False)).drew (fun h => h)).fr hf4 (fun h => h)); obtain ⟨-, -, -, -, bj4, -, -, blj, bzj⟩ := HBj.out.cells; have bz4 := bzj 4; have HF4 := hid (HST.out _ wj (.slice v4 (XI + k) cap4) HF2.out.drew hf4).1; have HV4 := hid hv4; have HVN4 := hid hvn4; clear hf4 hv4 hvn4 bzj))
      all_goals
        have HB4 := hid (HBj.out.set (.slice v4 (XI + k) cap4)).2.1
        have HV4b := hid (HV4.out.fr (set_fr wj N 4 (.slice v4 (XI + k) cap4)) (fun q hq e => (HV4.out.ne HBj.out (by decide)) (by rw [hq, e])))
        clear HBj HV4 HB2 HF2 bj4 blj bz4 b3 b4 bl
        generalize wj.setCell ⟨N, 4, none⟩ (.slice v4 (XI + k) cap4) = w4 at *
        obtain ⟨-, -, -, b3, -, -, -, bl, -⟩ := HB4.out.cells
        go_wp2_with fail
        refine (HJ3.out _ HF4.out).mono ?_
        rintro e wk ⟨v3, cap3, rfl, hv3, hvn3, hf5⟩
        have HBk := hid (HB4.out.fr hf5 (fun h => h))
        have HF5 := hid (HST.out _ wk (.slice v3 (XW - k) cap3) HF4.out hf5).2
        have HB5 := hid (HBk.out.set (.slice v3 (XW - k) cap3)).1
        have hV4k := HV4b.out.fr hf5 (fun _ _ h => h)
        have HV4c := hid (hV4k.fr (set_fr wk N 3 (.slice v3 (XW - k) cap3)) (fun q hq e => (hV4k.ne HBk.out (by decide)) (by rw [hq, e])))
        have HV3 := hid (hv3.fr (set_fr wk N 3 (.slice v3 (XW - k) cap3)) (fun q hq e => (hv3.ne HBk.out (by decide)) (by rw [hq, e])))
        have HVN3 := hid hvn3
        obtain ⟨-, -, -, bk3, -, -, -, blk, bzk⟩ := HBk.out.cells
        have bz3 := bzk 3
        have HA := hid (HPR.out (wk.setCell ⟨N, 3, none⟩ (.slice v3 (XW - k) cap3)).drew _ _ HF5.out.drew (HV3.out.fr (Fr.refl _ (fun _ => False)).drew (fun _ _ h => h)) HVN3.out (HV4c.out.fr (Fr.refl _ (fun _ => False)).drew (fun _ _ h => h)) HVN4.out)
        clear hf5 hv3 hvn3 hV4k bzk HV4b HB4 b3 bl HF4 HJ3 HJ4 hsl HPR HVN3 HVN4 HV3 HV4c
        go_upto_region 8 with fail
        clear bk3 blk bz3 HBk
        generalize wk.setCell ⟨N, 3, none⟩ (.slice v3 (XW - k) cap3) = w5 at *
        obtain ⟨b0, b1, b2, b3, b4, b5, b6, bl, -⟩ := HB5.out.cells
        obtain ⟨-, g2, g3, gz, gl, hl⟩ := HG5.out _ HF5.out
        obtain ⟨⟨u0, l0⟩, ⟨u1, l1⟩, ⟨u2, l2⟩, ⟨u3, l3⟩, ⟨u4, l4⟩, ⟨u5, l5⟩, ⟨u6, l6⟩, lz⟩ := HL5.out _ HF5.out
        have z0 := lz (n * 7)
        have z1 := lz (n * 7 + 1)
        have z2 := lz (n * 7 + 2)
        have z3 := lz (n * 7 + 3)
        have z4 := lz (n * 7 + 4)
        have z5 := lz (n * 7 + 5)
        have z6 := lz (n * 7 + 6)
        clear lz HG5 HL5 HB5 HF5 HST
        have hA9 := HA.out
        simp only [World.setCell_drew] at hA9
        have HA9 := hid hA9
        clear hA9 HA
        go_region
        go_wp2
        go_ret2
        exact ⟨rfl, HA9.out⟩
end Go.Proofs.Ytljkbnjdciljfaa
