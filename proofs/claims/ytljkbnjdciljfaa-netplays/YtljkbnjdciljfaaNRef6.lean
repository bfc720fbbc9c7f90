/- net: the document's net: Write: a walk. -/
import Derived.Test.YtljkbnjdciljfaaNRef5
import Derived.Deep.RegionHeld3
import Derived.Deep.RegionWith
namespace Go.Proofs.Ytljkbnjdciljfaa
open Go.RowKit
attribute [local go_sem ↓] Go.wp_at_zero Go.wp_at_succ

set_option maxHeartbeats 4000000 in
set_option maxRecDepth 100000 in
theorem rwrite_any {W : World} {lo : Nat} {g : Rx} {s : Np} (h : RN W lo g s) (c : Int) {ao : Option Addr} {m zc : Nat} {z : List Nat} (hm : m = z.length) (hm2 : m ≤ 140737488355328) (hzc : m ≤ zc) (hz : Bs W (.slice ao m zc) z) : Calls Try.prog 40 #[.pointer (some ⟨g.G, 0, none⟩), .int .i64 c, .slice ao m zc] W fun e w' => e = .returned (.tuple #[.int .i64 (writeK s c z.length : Int), .int .i64 (useE s c)]) ∧ RNA W w' lo g (writeS s c z) := by
  have HG := hid (gone_any h c true)
  rw [goneG_use] at HG
  rcases use_c s c with ⟨h1, _, _, _, h2, h3⟩ | ⟨n, x, rfl, k1, k2, hx, hs, h1⟩
  · rw [(h2 z).2.2, h3]
    have hb : (useE s c != 0) = true := by simpa using h1
    generalize useE s c = E at *
    have HK := hid (fun w1 (hf : Fr W w1 (fun _ => False)) => h.keep hf)
    clear h h2 h3 hz
    go_enter Try.func40, Try.ntmps40
    go_wp2_with fail
    refine HG.out.mono ?_
    rintro e w1 ⟨rfl, hf⟩
    have HF := hid hf
    clear hf HG
    go_wp2
    go_ret2
    exact ⟨rfl, HK.out _ HF.out⟩
  · rw [h1] at HG ⊢
    have HW : Hid (∀ w1, Fr W w1 (fun _ => False) → RN w1 lo g s) := fun w1 hf => h.still hf
    have HC := hid (fun w1 (h1 : RN w1 lo g s) => h1.co (n := n) (by omega))
    rw [c_of hx] at HC
    have HCE := hid (fun w1 (h1 : RN w1 lo g s) => h1.cells)
    have HZ := hid hz
    have hwa := wf_at h.wf (c := (n : Int)) (by rw [at_of (isC_of k1 k2)]; exact hx)
    have hwb := h.wf.b
    have t0 : (0 : Int) ≤ (n : Int) := by omega
    have t1 : (n : Int) < 65 := by omega
    have hgl := h.gl
    obtain ⟨e1, e2⟩ := (one_of k1 k2 hx).write hs z
    rw [e1]
    obtain ⟨r, hr⟩ : ∃ r : Nat, s.b - x.o.length = r := ⟨_, rfl⟩
    obtain ⟨k, hk⟩ : ∃ k : Nat, min z.length (s.b - x.o.length) = k := ⟨_, rfl⟩
    rw [hk] at e2 ⊢
    have hol : x.o.length ≤ s.b := hwa.2.2.1
    have hpt : partN m r (m : Int) = k := by rw [← hk, ← hr, hm]; unfold partN; omega
    have HPT := hid (fun w1 => part_any m r (m : Int) w1)
    rw [hpt] at HPT
    have HS : Hid (∀ w1 wj v, RN w1 lo g s → Fr w1 wj (fun _ => False) → Rw wj lo 5 v (x.o ++ z.take k) → (∀ k, v.ownBlock = some k → w1.heap.size ≤ k) → RNA w1 (wj.setCell ⟨g.L, n * 7 + 5, none⟩ v) lo g (writeS s n z)) := fun w1 wj v h1 hj hv hn => RN.grown h1 hj (by omega) hx e2 (wf_write h1.wf _ _) (j := 5) (by omega) (by omega) rfl rfl (fun i hi => by unfold lst; simp [hi]) hv hn
    have HM := hid hm
    have hkz : k ≤ z.length := by omega
    have hkm : (k : Int) ≤ (m : Int) := by omega
    have hkc : (k : Int) ≤ (zc : Int) := by omega
    have hk0 : (0 : Int) ≤ (k : Int) := by omega
    have HKZ := hid hkz
    have hxo : x.o.length ≤ 131072 := by omega
    have hkr : k ≤ 131072 := by omega
    have hm3 : (m : Int) ≤ 140737488355328 := by omega
    obtain ⟨SB, hSB⟩ : ∃ b, s.b = b := ⟨_, rfl⟩
    rw [hSB] at hr hol HCE
    have hwr : IntKind.i64.wrap ((SB : Int) - (x.o.length : Int)) = (r : Int) := by rw [show (SB : Int) - (x.o.length : Int) = (r : Int) from by omega]; exact wrap_fit (by unfold fits; omega)
    clear h h1 e1 e2 hx hs hz hm hwa hwb hk hr hpt hSB hkz hol
    generalize writeS s n z = s' at *
    go_enter Try.func40, Try.ntmps40
    go_wp2_with fail
    refine HG.out.mono ?_
    rintro e w1 ⟨rfl, hf⟩
    have HF := hid hf
    have HR := hid (HW.out _ hf)
    obtain ⟨g0, g1, g2, g3, gf, gl⟩ := HCE.out _ HR.out
    obtain ⟨c0, c1, c2, ⟨a3, q3, a4, q4, a5, q5, a6, q6, c3, c4, c5, c6, r3, r4, r5, r6, p3, p4, p5, p6⟩, fz, hl⟩ := HC.out _ HR.out
    have hz5 := fz (n * 7 + 5)
    have HLO : Hid (lo ≤ w1.heap.size) := HR.out.lo.2.2
    obtain ⟨XL, hXL⟩ : ∃ X, x.o.length = X := ⟨_, rfl⟩
    have HXL := hid hXL
    rw [hXL] at c5 p5 hxo hwr
    have HJ : Hid (∀ w2, Fr w1 w2 (fun _ => False) → Calls Try.prog 66 #[.slice a5 XL q5, .slice ao k zc] w2 fun e w' => ∃ v cap, e = .returned (.slice v (XL + k) cap) ∧ Rw w' lo 5 (.slice v (XL + k) cap) (x.o ++ z.take k) ∧ (∀ q, (Value.slice v (XL + k) cap).ownBlock = some q → w1.heap.size ≤ q) ∧ Fr w1 w' (fun _ => False)) := fun w2 hf2 => by
      refine (join_any (lo := lo) w2 (rw_bsR (p5.fr hf2 (fun _ _ h => h)) HXL.out).1 (bs_take (bs_keep HZ.out (HF.out.trans hf2)) k HKZ.out) HXL.out (by rw [List.length_take]; have := HKZ.out; omega) (by omega) (Nat.le_trans HLO.out hf2.size)).mono ?_
      rintro e w' ⟨v, cap, he, h3, h4, h5⟩
      exact ⟨v, cap, he, h3, fun q hq => by have := h4 q hq; have := hf2.size; omega, hf2.trans h5⟩
    have HPR := hid (fun wj v (h3 : Fr w1 wj (fun _ => False)) h4 h5 => RNA.pre HF.out (HS.out w1 wj v HR.out h3 h4 h5))
    have HZF : Hid (∀ wj, Fr w1 wj (fun _ => False) → wj.frozen? ⟨g.L, n * 7 + 5, none⟩ = false ∧ wj.cell? ⟨g.L, n * 7 + 5, none⟩ = some (.slice a5 XL q5) ∧ wj.cell? ⟨g.G, 2, none⟩ = some (.slice (some ⟨g.L, 0, none⟩) 65 65) ∧ wj.cell? ⟨g.G, 1, none⟩ = some (.int .i64 (SB : Int)) ∧ g.G < wj.heap.size ∧ g.L < wj.heap.size) := fun wj hf => by
      have hb := hf.block g.L hl (fun h => h)
      refine ⟨?_, by rw [World.cell?_of_block (w := w1) hb]; exact c5, by rw [World.cell?_of_block (w := w1) (hf.block g.G gl (fun h => h))]; exact g2, by rw [World.cell?_of_block (w := w1) (hf.block g.G gl (fun h => h))]; exact g1, Nat.lt_of_lt_of_le gl hf.size, Nat.lt_of_lt_of_le hl hf.size⟩
      have := hz5
      unfold World.frozen? at this ⊢
      rw [hb]
      exact this
    clear hf HG HW HS HC HCE HR HF HZ HM HKZ HXL hXL g0 g3 gf c0 c1 c2 c3 c4 c6 r3 r4 r5 r6 p3 p4 p5 p6 fz
    go_wp2_with fail
    go_region_held3 (fun W' => W'.cell? ⟨g.G, 1, none⟩ = some (.int .i64 (SB : Int)) ∧ W'.cell? ⟨g.G, 2, none⟩ = some (.slice (some ⟨g.L, 0, none⟩) 65 65) ∧ W'.cell? ⟨g.L, n * 7 + 5, none⟩ = some (.slice a5 XL q5) ∧ g.G < W'.heap.size ∧ g.L < W'.heap.size)
      (go_keep)
      ((go_at_call 67; refine (HPT.out _).mono ?_; rintro e wp ⟨rfl, rfl⟩))
    all_goals
      clear c5 g1 g2 gl hl hz5 hwr HPT
      have HF2 : Hid (Fr w1 w1.drew (fun _ => False)) := (Fr.refl _ _).drew
      obtain ⟨hz5, c5, g2, _, gl, hl⟩ := HZF.out _ HF2.out
      generalize w1.drew = w2 at *
      go_wp2_with fail
      go_region_with
        ((go_at_call 66; refine (HJ.out _ HF2.out.drew).mono ?_; rintro e wj ⟨v, cap, rfl, hv, hvn, hf3⟩; obtain ⟨hzj, _, g2j, _, glj, hlj⟩ := HZF.out _ hf3; have HA := hid (HPR.out wj _ hf3 hv hvn); clear hf3 hv hvn))
      all_goals
        go_wp2
        go_ret2
        exact ⟨rfl, HA.out⟩
end Go.Proofs.Ytljkbnjdciljfaa
