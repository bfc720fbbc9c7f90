/- net: the document's net: Fetch: a walk. -/
import Derived.Test.YtljkbnjdciljfaaNRef8
namespace Go.Proofs.Ytljkbnjdciljfaa
open Go.RowKit
attribute [local go_sem ↓] Go.wp_at_zero Go.wp_at_succ

set_option maxHeartbeats 8000000 in
set_option maxRecDepth 100000 in
theorem rfetch_any {W : World} {lo : Nat} {g : Rx} {s : Np} (h : RN W lo g s) (hsm : s.m ≤ 70368744177664) (c most : Int) : Calls Try.prog 41 #[.pointer (some ⟨g.G, 0, none⟩), .int .i64 c, .int .i64 most] W fun e w' => e = .returned (.tuple #[.int .i64 (fetchK s c most : Int), .int .i64 (findE s c)]) ∧ RNA W w' lo g (fetchS s c most) := by
  have HG := hid (gone_any h c false)
  rw [goneG_find] at HG
  rcases find_c s c with ⟨h1, _, _, h2⟩ | ⟨n, x, rfl, k1, k2, hx, h1⟩
  · rw [(h2 most).2.2.1, (h2 most).2.2.2]
    have hb : (findE s c != 0) = true := by simpa using h1
    generalize findE s c = E at *
    have HK := hid (fun w1 (hf : Fr W w1 (fun _ => False)) => h.keep hf)
    clear h h2
    go_enter Try.func41, Try.ntmps41
    go_wp2_with fail
    refine HG.out.mono ?_
    rintro e w1 ⟨rfl, hf⟩
    have HF := hid hf
    clear hf HG
    go_wp2
    go_ret2
    exact ⟨rfl, HK.out _ HF.out⟩
  · rw [h1] at HG ⊢
    have HW : Hid (∀ w1, Fr W w1 (fun _ => False) → RN w1 lo g s) := fun w1 hf => h.still hf
    have HC := hid (fun w1 (h1 : RN w1 lo g s) => h1.co (n := n) (by omega))
    rw [c_of hx] at HC
    have HCE := hid (fun w1 (h1 : RN w1 lo g s) => h1.cells)
    have hwa := wf_at h.wf (c := (n : Int)) (by rw [at_of (isC_of k1 k2)]; exact hx)
    have hwb := h.wf.b
    have t0 : (0 : Int) ≤ (n : Int) := by omega
    have t1 : (n : Int) < 65 := by omega
    have hgl := h.gl
    obtain ⟨e1, e2⟩ := (one_of k1 k2 hx).fetch most
    rw [e1]
    have HPT := hid (fun w1 => part_any x.o.length x.o.length most w1)
    have hpk : partN x.o.length x.o.length most = min x.o.length most.toNat := by unfold partN; omega
    rw [hpk] at HPT
    have hkw : min x.o.length most.toNat ≤ x.o.length := by omega
    obtain ⟨k, hk⟩ : ∃ k : Nat, min x.o.length most.toNat = k := ⟨_, rfl⟩
    rw [hk] at e2 hkw HPT ⊢
    have hol : x.o.length ≤ 131072 := by have := hwa.2.2.1; omega
    have hhl : x.h.length ≤ 70368744177664 := by have := hwa.2.2.2.1; omega
    have HS : Hid (∀ w1 wj v5 v6, RN w1 lo g s → Fr w1 wj (fun _ => False) → Rw wj lo 5 v5 (x.o.drop k) → (∀ q, v5.ownBlock = some q → w1.heap.size ≤ q) → Rw wj lo 5 v6 (x.h ++ x.o.take k) → (∀ q, v6.ownBlock = some q → w1.heap.size ≤ q) → RNA w1 ((((((((wj.setCell ⟨g.L, n * 7, none⟩ (.bool true)).setCell ⟨g.L, n * 7 + 1, none⟩ (.bool x.cl)).setCell ⟨g.L, n * 7 + 2, none⟩ (.bool x.ct)).setCell ⟨g.L, n * 7 + 3, none⟩ (g.cv n 3)).setCell ⟨g.L, n * 7 + 4, none⟩ (g.cv n 4)).setCell ⟨g.L, n * 7 + 5, none⟩ v5).setCell ⟨g.L, n * 7 + 6, none⟩ v6).setCell ⟨g.G, 3, none⟩ (.int .i64 ((s.m : Int) + (k : Int)))) lo g (fetchS s n most)) := fun w1 wj v5 v6 h1 hj a1 a2 a3 a4 => by
      have hold := fun j h3 h7 => h1.ls n j (by omega) h3 h7
      rw [c_of hx] at hold
      refine RN.full h1 hj (n := n) (x := x) (u := fun j => if j = 3 then g.cv n 3 else if j = 4 then g.cv n 4 else if j = 5 then v5 else v6) (by omega) e2 (wf_fetch h1.wf _ _) rfl rfl (four ⟨(hold 3 (by omega) (by omega)).fr hj (fun _ _ h => h), fun q hq => Or.inl ⟨3, by omega, by omega, hq⟩⟩ ⟨(hold 4 (by omega) (by omega)).fr hj (fun _ _ h => h), fun q hq => Or.inl ⟨4, by omega, by omega, hq⟩⟩ ⟨a1, fun q hq => Or.inr (a2 q hq)⟩ ⟨a3, fun q hq => Or.inr (a4 q hq)⟩)
    have HTH : Hid ((s.c n).isSome = true) := by rw [hx]; rfl
    clear h h1 e1 e2 hx hwa hwb hk hpk
    generalize fetchS s n most = s' at *
    go_enter Try.func41, Try.ntmps41
    go_wp2_with fail
    refine HG.out.mono ?_
    rintro e w1 ⟨rfl, hf⟩
    have HF := hid hf
    have HR := hid (HW.out _ hf)
    obtain ⟨-, -, g2, -, -, gl⟩ := HCE.out _ HR.out
    obtain ⟨c0, c1, c2, ⟨a3, q3, a4, q4, a5, q5, a6, q6, c3, c4, c5, c6, r3, r4, r5, r6, p3, p4, p5, p6⟩, fz, hl⟩ := HC.out _ HR.out
    rw [HTH.out] at c0
    have HLO : Hid (lo ≤ w1.heap.size) := HR.out.lo.2.2
    have HPR := hid (fun wj v5 v6 (h3 : Fr w1 wj (fun _ => False)) h4 h5 h6 h7 => RNA.pre HF.out (HS.out w1 wj v5 v6 HR.out h3 h4 h5 h6 h7))
    rw [r3, r4] at HPR
    have HP5 := hid p5
    have HP6 := hid p6
    clear HS HG HW hf HF HTH r3 r4 r5 r6 p3 p4 p5 p6
    obtain ⟨XO, hXO⟩ : ∃ X, x.o.length = X := ⟨_, rfl⟩
    obtain ⟨XH, hXH⟩ : ∃ X, x.h.length = X := ⟨_, rfl⟩
    have HXO := hid hXO
    have HXH := hid hXH
    rw [hXO] at c5 HP5 hol hkw HPT
    rw [hXH] at c6 HP6 hhl
    clear hXO hXH
    generalize x.w.length = XW at *
    generalize x.i.length = XI at *
    have HJ6 : Hid (∀ w2, Fr w1 w2 (fun _ => False) → Calls Try.prog 66 #[.slice a6 XH q6, .slice a5 k q5] w2 fun e w' => ∃ v cap, e = .returned (.slice v (XH + k) cap) ∧ Rw w' lo 5 (.slice v (XH + k) cap) (x.h ++ x.o.take k) ∧ (∀ q, (Value.slice v (XH + k) cap).ownBlock = some q → w1.heap.size ≤ q) ∧ Fr w2 w' (fun _ => False)) := fun w2 hf2 => by
      refine (join_any (lo := lo) w2 (rw_bsR (HP6.out.fr hf2 (fun _ _ h => h)) HXH.out).1 (bs_take (rw_bsR (HP5.out.fr hf2 (fun _ _ h => h)) HXO.out).1 k (by rw [HXO.out]; exact hkw)) HXH.out (by rw [List.length_take]; have := HXO.out; omega) (by omega) (Nat.le_trans HLO.out hf2.size)).mono ?_
      rintro e w' ⟨v, cap, he, h3, h4, h5⟩
      exact ⟨v, cap, he, h3, fun q hq => by have := h4 q hq; have := hf2.size; omega, h5⟩
    have HJ5 : Hid (∀ w2, Fr w1 w2 (fun _ => False) → Calls Try.prog 66 #[.slice (sa k a5 q5) (XO - k) (q5 - k), .slice none 0 0] w2 fun e w' => ∃ v cap, e = .returned (.slice v (XO - k) cap) ∧ Rw w' lo 5 (.slice v (XO - k) cap) (x.o.drop k) ∧ (∀ q, (Value.slice v (XO - k) cap).ownBlock = some q → w1.heap.size ≤ q) ∧ Fr w2 w' (fun _ => False)) := fun w2 hf2 => by
      have hb := bs_from (HP5.out.fr hf2 (fun _ _ h => h)) HXO.out.symm k hkw
      refine (join_any (lo := lo) w2 hb.1 (Or.inl ⟨rfl, rfl⟩ : Bs w2 (.slice none 0 0) []) hb.2.symm rfl (by omega) (Nat.le_trans HLO.out hf2.size)).mono ?_
      rintro e w' ⟨v, cap, he, h3, h4, h5⟩
      rw [List.append_nil] at h3
      exact ⟨v, cap, he, h3, fun q hq => by have := h4 q hq; have := hf2.size; omega, h5⟩
    have HG5 : Hid (∀ wj, Fr w1 wj (fun _ => False) → wj.cell? ⟨g.G, 2, none⟩ = some (.slice (some ⟨g.L, 0, none⟩) 65 65) ∧ wj.cell? ⟨g.G, 3, none⟩ = some (.int .i64 (s.m : Int)) ∧ wj.frozen? ⟨g.G, 3, none⟩ = false ∧ g.G < wj.heap.size ∧ g.L < wj.heap.size) := fun wj hf => by
      obtain ⟨a, b, c, d, e, f⟩ := HCE.out wj (HR.out.still hf)
      exact ⟨c, d, e _, f, (HC.out wj (HR.out.still hf)).lt⟩
    have HL5 : Hid (∀ wj, Fr w1 wj (fun _ => False) → (∃ u, wj.cell? ⟨g.L, n * 7, none⟩ = some u) ∧ (∃ u, wj.cell? ⟨g.L, n * 7 + 1, none⟩ = some u) ∧ (∃ u, wj.cell? ⟨g.L, n * 7 + 2, none⟩ = some u) ∧ (∃ u, wj.cell? ⟨g.L, n * 7 + 3, none⟩ = some u) ∧ (∃ u, wj.cell? ⟨g.L, n * 7 + 4, none⟩ = some u) ∧ (∃ u, wj.cell? ⟨g.L, n * 7 + 5, none⟩ = some u) ∧ (∃ u, wj.cell? ⟨g.L, n * 7 + 6, none⟩ = some u) ∧ ∀ o, wj.frozen? ⟨g.L, o, none⟩ = false) := fun wj hf => by
      obtain ⟨k0, k1, k2, ⟨_, _, _, _, _, _, _, _, k3, k4, k5, k6, _⟩, kz, _⟩ := HC.out wj (HR.out.still hf)
      exact ⟨⟨_, k0⟩, ⟨_, k1⟩, ⟨_, k2⟩, ⟨_, k3⟩, ⟨_, k4⟩, ⟨_, k5⟩, ⟨_, k6⟩, kz⟩
    have hm1 : (s.m : Int) ≤ 70368744177664 := by omega
    have hq5 := (rw_bsR HP5.out HXO.out).2.1
    have hk5 : (k : Int) ≤ (q5 : Int) := by omega
    have hk0 : (0 : Int) ≤ (k : Int) := by omega
    have hsl := fun w9 => slice_run (W := w9) a5 XO q5 k hkw
    clear HC HCE HR HXO HXH HP5 HP6 HLO hsm
    generalize x.cl = bcl at *
    generalize x.ct = bct at *
    generalize s.m = SM at *
    go_upto_region 5 with fail
    have HB := hid (Bx7.new w1 (.bool true) (.bool bcl) (.bool bct) (.slice a3 XW q3) (.slice a4 XI q4) (.slice a5 XO q5) (.slice a6 XH q6))
    have HF1 : Hid (Fr w1 (w1.alloc (.cells #[.bool true, .bool bcl, .bool bct, .slice a3 XW q3, .slice a4 XI q4, .slice a5 XO q5, .slice a6 XH q6] 99)) (fun _ => False)) := alloc_fr w1 _ _
    generalize w1.alloc (.cells #[.bool true, .bool bcl, .bool bct, .slice a3 XW q3, .slice a4 XI q4, .slice a5 XO q5, .slice a6 XH q6] 99) = w2 at *
    clear g2 gl c0 c1 c2 c3 c4 c5 c6 fz hl
    obtain ⟨-, -, -, -, -, b5, b6, bl, -⟩ := HB.out.cells
    generalize hN9 : w1.heap.size = N at *
    have HN9 := hid hN9
    clear hN9
    have HST : Hid (∀ (wa wb : World) (v : Value), Fr w1 wa (fun _ => False) → Fr wa wb (fun _ => False) → Fr w1 (wb.setCell ⟨N, 6, none⟩ v) (fun _ => False) ∧ Fr w1 (wb.setCell ⟨N, 5, none⟩ v) (fun _ => False)) := fun wa wb v h1 h2 => ⟨(h1.trans h2).setCell (fun h => absurd HN9.out (by simp at h; omega)) v, (h1.trans h2).setCell (fun h => absurd HN9.out (by simp at h; omega)) v⟩
    go_wp2_with fail
    refine (HPT.out _).mono ?_
    rintro e wp ⟨rfl, h9⟩
    obtain rfl : w2 = wp := h9.symm
    clear h9 HPT
    go_wp2_with fail
    go_region_with
      ((go_at_call 66; refine (HJ6.out _ HF1.out.drew).mono ?_; rintro e wj ⟨v6, cap6, rfl, hv6, hvn6, hf4⟩; have HBj := hid ((HB.out.fr (Fr.refl w2 (fun _ => False)).drew (fun h => h)).fr hf4 (fun h => h)); obtain ⟨-, -, -, -, -, -, bj6, blj, bzj⟩ := HBj.out.cells; have bz6 := bzj 6; have HF4 := hid (HST.out _ wj (.slice v6 (XH + k) cap6) HF1.out.drew hf4).1; have HV6 := hid hv6; have HVN6 := hid hvn6; clear hf4 hv6 hvn6 bzj))
    all_goals
      have HB4 := hid (HBj.out.set (.slice v6 (XH + k) cap6)).2.2.2
      have HV6b := hid (HV6.out.fr (set_fr wj N 6 (.slice v6 (XH + k) cap6)) (fun q hq e => (HV6.out.ne HBj.out (by decide)) (by rw [hq, e])))
      clear HBj HV6 HB HF1 bj6 blj bz6 b5 b6 bl
      generalize wj.setCell ⟨N, 6, none⟩ (.slice v6 (XH + k) cap6) = w4 at *
      obtain ⟨-, -, -, -, -, b5, -, bl, -⟩ := HB4.out.cells
      go_wp2_with fail
      refine (HJ5.out _ HF4.out).mono ?_
      rintro e wk ⟨v5, cap5, rfl, hv5, hvn5, hf5⟩
      have HBk := hid (HB4.out.fr hf5 (fun h => h))
      have HF5 := hid (HST.out _ wk (.slice v5 (XO - k) cap5) HF4.out hf5).2
      have HB5 := hid (HBk.out.set (.slice v5 (XO - k) cap5)).2.2.1
      have hV6k := HV6b.out.fr hf5 (fun _ _ h => h)
      have HV6c := hid (hV6k.fr (set_fr wk N 5 (.slice v5 (XO - k) cap5)) (fun q hq e => (hV6k.ne HBk.out (by decide)) (by rw [hq, e])))
      have HV5 := hid (hv5.fr (set_fr wk N 5 (.slice v5 (XO - k) cap5)) (fun q hq e => (hv5.ne HBk.out (by decide)) (by rw [hq, e])))
      have HVN5 := hid hvn5
      obtain ⟨-, -, -, -, -, bk5, -, blk, bzk⟩ := HBk.out.cells
      have bz5 := bzk 5
      have HA := hid (HPR.out (wk.setCell ⟨N, 5, none⟩ (.slice v5 (XO - k) cap5)).drew _ _ HF5.out.drew (HV5.out.fr (Fr.refl _ (fun _ => False)).drew (fun _ _ h => h)) HVN5.out (HV6c.out.fr (Fr.refl _ (fun _ => False)).drew (fun _ _ h => h)) HVN6.out)
      clear hf5 hv5 hvn5 hV6k bzk HV6b HB4 b5 bl HF4 HJ5 HJ6 hsl HPR HVN5 HVN6 HV5 HV6c
      go_upto_region 8 with fail
      clear bk5 blk bz5 HBk
      generalize wk.setCell ⟨N, 5, none⟩ (.slice v5 (XO - k) cap5) = w5 at *
      obtain ⟨b0, b1, b2, b3, b4, b5, b6, bl, -⟩ := HB5.out.cells
      obtain ⟨g2, g3, gz, gl, hl⟩ := HG5.out _ HF5.out
      obtain ⟨⟨u0, l0⟩, ⟨u1, l1⟩, ⟨u2, l2⟩, ⟨u3, l3⟩, ⟨u4, l4⟩, ⟨u5, l5⟩, ⟨u6, l6⟩, lz⟩ := HL5.out _ HF5.out
      have z0 := lz (n * 7)
      have z1 := lz (n * 7 + 1)
      have z2 := lz (n * 7 + 2)
      have z3 := lz (n * 7 + 3)
      have z4 := lz (n * 7 + 4)
      have z5 := lz (n * 7 + 5)
      have z6 := lz (n * 7 + 6)
      clear lz HG5 HL5 HB5 HF5 HST
      have hA9 := HA.out
      simp only [World.setCell_drew] at hA9
      have HA9 := hid hA9
      clear hA9 HA
      go_region
      go_wp2
      go_ret2
      exact ⟨rfl, HA9.out⟩
end Go.Proofs.Ytljkbnjdciljfaa
