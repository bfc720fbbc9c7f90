/- net: the document's net: Send, Write: walks. -/
import Derived.Test.YtljkbnjdciljfaaNRef4
import Derived.Deep.RegionWith
import Derived.Deep.DrawnRows
namespace Go.Proofs.Ytljkbnjdciljfaa
open Go.RowKit
attribute [local go_sem ↓] Go.wp_at_zero Go.wp_at_succ

/-- One list of a connection is another, which was made just now. -/
theorem RN.grown {W Wj : World} {lo : Nat} {g : Rx} {s s' : Np} (h : RN W lo g s) (hj : Fr W Wj (fun _ => False)) {n : Nat} {x y : Cp} (hn : n < 65) (hx : s.c n = some x) (hs' : s' = s.upd n y 0) (hwf : Wf s') {j : Nat} (h3 : 3 ≤ j) (h7 : j < 7) (hcl : y.cl = x.cl) (hct : y.ct = x.ct) (hy : ∀ i, i ≠ j → lst y i = lst x i) {v : Value} (hv : Rw Wj lo 5 v (lst y j)) (hvn : ∀ k, v.ownBlock = some k → W.heap.size ≤ k) : RNA W (Wj.setCell ⟨g.L, n * 7 + j, none⟩ v) lo g s' := by
  have hf : Fr W (Wj.setCell ⟨g.L, n * 7 + j, none⟩ v) (fun q => q = g.G ∨ q = g.L) := (hj.mono (fun _ _ h => h.elim)).trans (set_l n j v)
  have hcp := c_of hx
  have hold := fun i h3 h7 => h.old hf (n := n) (j := i) hn h3 h7
  rw [hcp] at hold
  have hL := h.row.lt
  refine h.upd hn hs' hwf (cv' := cvSet g.cv n j v) hf ?_ ((h.row.fr hj (fun h => h)).set n j hn h7 _) (fun i j e => cv_row _ e _) ?_ ?_ ?_ (fun i i3 i7 => ?_)
  · rw [hs']
    exact set_net (keep_block h.net hj (fun h => h)) h.gl _ _
  · rw [cv_col _ (by omega), h.th n hn, hx]; rfl
  · rw [cv_col _ (by omega), h.cl n hn, hcp, hcl]
  · rw [cv_col _ (by omega), h.ct n hn, hcp, hct]
  · by_cases e : i = j
    · subst e
      rw [cv_same]
      exact ⟨hv.fr (set_fr Wj g.L _ _) (fun k hk e => by have := hvn k hk; omega), fun k hk => Or.inr (hvn k hk)⟩
    · rw [cv_col _ e, hy i e]
      exact hold i i3 i7
theorem rw_bsR {W : World} {lo : Nat} {ao : Option Addr} {n cap : Nat} {xs : List Nat} (h : Rw W lo 5 (.slice ao n cap) xs) (hn : xs.length = n) : Bs W (.slice ao n cap) xs ∧ n ≤ cap ∧ cap ≤ maxLen := by
  subst hn
  obtain ⟨_, _, e, h1, h2⟩ := h.shape
  simp only [Value.slice.injEq] at e
  obtain ⟨_, _, rfl⟩ := e
  exact ⟨bs_all h, h1, h2⟩
theorem bs_keep {W W' : World} {v : Value} {xs : List Nat} (h : Bs W v xs) (hf : Fr W W' (fun _ => False)) : Bs W' v xs := h.keep fun a j u ha hu => by
  have hlt := h.lt ha (by intro e; subst e; simp [by8] at hu)
  exact hf.block a hlt (fun h => h)
set_option maxHeartbeats 4000000 in
set_option maxRecDepth 100000 in
theorem rsend_any {W : World} {lo : Nat} {g : Rx} {s : Np} (h : RN W lo g s) (c : Int) {ao : Option Addr} {m zc : Nat} {z : List Nat} (hm : m = z.length) (hm2 : m ≤ 140737488355328) (hz : Bs W (.slice ao m zc) z) : Calls Try.prog 36 #[.pointer (some ⟨g.G, 0, none⟩), .int .i64 c, .slice ao m zc] W fun e w' => e = .returned (.int .i64 (sendE s c z)) ∧ RNA W w' lo g (sendS s c z) := by
  have HG := hid (gone_any h c true)
  rw [goneG_use] at HG
  rcases use_c s c with ⟨h1, _, _, _, h2, _⟩ | ⟨n, x, rfl, k1, k2, hx, hs, h1⟩
  · rw [(h2 z).1, (h2 z).2.1]
    have hb : (useE s c != 0) = true := by simpa using h1
    generalize useE s c = E at *
    have HK := hid (fun w1 (hf : Fr W w1 (fun _ => False)) => h.keep hf)
    clear h h2 hz
    go_enter Try.func36, Try.ntmps36
    go_wp2_with fail
    refine HG.out.mono ?_
    rintro e w1 ⟨rfl, hf⟩
    have HF := hid hf
    clear hf HG
    go_wp2
    go_ret
    exact ⟨rfl, HK.out _ HF.out⟩
  · rw [h1] at HG
    have HW : Hid (∀ w1, Fr W w1 (fun _ => False) → RN w1 lo g s) := fun w1 hf => h.still hf
    have HC := hid (fun w1 (h1 : RN w1 lo g s) => h1.co (n := n) (by omega))
    rw [c_of hx] at HC
    have HCE := hid (fun w1 (h1 : RN w1 lo g s) => h1.cells)
    have HZ := hid hz
    have hwl : x.w.length ≤ 1048576 := (wf_at h.wf (by rw [at_of (isC_of k1 k2)]; exact hx)).2.1
    have t0 : (0 : Int) ≤ (n : Int) := by omega
    have t1 : (n : Int) < 65 := by omega
    have hgl := h.gl
    by_cases hl : x.w.length + z.length ≤ 1048576
    · obtain ⟨e1, e2⟩ := (one_of k1 k2 hx).send hs hl
      rw [e1]
      have HS : Hid (∀ w1 wj v, RN w1 lo g s → Fr w1 wj (fun _ => False) → Rw wj lo 5 v (x.w ++ z) → (∀ k, v.ownBlock = some k → w1.heap.size ≤ k) → RNA w1 (wj.setCell ⟨g.L, n * 7 + 3, none⟩ v) lo g (sendS s n z)) := fun w1 wj v h1 hj hv hn => RN.grown h1 hj (by omega) hx e2 (wf_send h1.wf _ _) (j := 3) (by omega) (by omega) rfl rfl (fun i hi => by unfold lst; simp [hi]) hv hn
      have tl : (x.w.length : Int) + (m : Int) ≤ 1048576 := by omega
      have HM := hid hm
      clear h h1 e1 e2 hx hs hl hz hm
      generalize sendS s n z = s' at *
      go_enter Try.func36, Try.ntmps36
      go_wp2_with fail
      refine HG.out.mono ?_
      rintro e w1 ⟨rfl, hf⟩
      have HF := hid hf
      have HR := hid (HW.out _ hf)
      obtain ⟨g0, g1, g2, g3, gf, gl⟩ := HCE.out _ HR.out
      obtain ⟨c0, c1, c2, ⟨a3, q3, a4, q4, a5, q5, a6, q6, c3, c4, c5, c6, r3, r4, r5, r6, p3, p4, p5, p6⟩, fz, hl⟩ := HC.out _ HR.out
      have hz3 := fz (n * 7 + 3)
      have HLO : Hid (lo ≤ w1.heap.size) := HR.out.lo.2.2
      obtain ⟨XL, hXL⟩ : ∃ X, x.w.length = X := ⟨_, rfl⟩
      have HXL := hid hXL
      rw [hXL] at c3 p3 tl hwl
      have HJ : Hid (∀ w2, Fr w1 w2 (fun _ => False) → Calls Try.prog 66 #[.slice a3 XL q3, .slice ao m zc] w2 fun e w' => ∃ v cap, e = .returned (.slice v (XL + m) cap) ∧ Rw w' lo 5 (.slice v (XL + m) cap) (x.w ++ z) ∧ (∀ k, (Value.slice v (XL + m) cap).ownBlock = some k → w1.heap.size ≤ k) ∧ Fr w1 w' (fun _ => False)) := fun w2 hf2 => by
        refine (join_any (lo := lo) w2 (rw_bsR (p3.fr hf2 (fun _ _ h => h)) HXL.out).1 (bs_keep HZ.out (HF.out.trans hf2)) HXL.out HM.out.symm (by omega) (Nat.le_trans HLO.out hf2.size)).mono ?_
        rintro e w' ⟨v, cap, he, h3, h4, h5⟩
        exact ⟨v, cap, he, h3, fun k hk => by have := h4 k hk; have := hf2.size; omega, hf2.trans h5⟩
      have HCL : Hid (∀ W', Fr w1 W' (fun q => q = g.L) → W'.cell? ⟨g.G, 2, none⟩ = some (.slice (some ⟨g.L, 0, none⟩) 65 65) ∧ g.G < W'.heap.size ∧ g.L < W'.heap.size) := fun W' hf => ⟨by rw [World.cell?_of_block (w := w1) (hf.block g.G gl hgl)]; exact g2, Nat.lt_of_lt_of_le gl hf.size, Nat.lt_of_lt_of_le hl hf.size⟩
      have HF2 : Hid (Fr w1 w1 (fun _ => False)) := Fr.refl _ _
      have HPR := hid (fun wj v (h3 : Fr w1 wj (fun _ => False)) h4 h5 => RNA.pre HF.out (HS.out w1 wj v HR.out h3 h4 h5))
      have HZF : Hid (∀ wj, Fr w1 wj (fun _ => False) → wj.frozen? ⟨g.L, n * 7 + 3, none⟩ = false ∧ wj.cell? ⟨g.L, n * 7 + 3, none⟩ = some (.slice a3 XL q3)) := fun wj hf => by
        have hb := hf.block g.L hl (fun h => h)
        refine ⟨?_, by rw [World.cell?_of_block (w := w1) hb]; exact c3⟩
        have := hz3
        unfold World.frozen? at this ⊢
        rw [hb]
        exact this
      clear hf HG HW HS HC HCE HR HF HZ HM HXL hXL g0 g1 g3 gf c0 c1 c2 c4 c5 c6 r3 r4 r5 r6 p3 p4 p5 p6 fz
      go_wp2_with fail
      go_region_with
        ((go_at_call 66; refine (HJ.out _ HF2.out.drew).mono ?_; rintro e wj ⟨v, cap, rfl, hv, hvn, hf3⟩; obtain ⟨hzj, hcj⟩ := HZF.out _ hf3; obtain ⟨g2j, glj, hlj⟩ := HCL.out _ (hf3.mono (fun _ _ h => h.elim)); have HA := hid (HPR.out wj _ hf3 hv hvn); clear hf3 hv hvn))
      all_goals
        go_wp2
        go_ret
        exact ⟨rfl, HA.out⟩
    · obtain ⟨e1, e2⟩ := (one_of k1 k2 hx).sendMany hs (by omega : 1048576 < x.w.length + z.length)
      rw [e1, e2]
      have HK := hid (fun w1 (hf : Fr W w1 (fun _ => False)) => h.keep hf)
      have tl : ¬ (x.w.length : Int) + (m : Int) ≤ 1048576 := by omega
      have hm3 : (m : Int) ≤ 140737488355328 := by omega
      clear h h1 e1 e2 hx hs hl hz hm
      go_enter Try.func36, Try.ntmps36
      go_wp2_with fail
      refine HG.out.mono ?_
      rintro e w1 ⟨rfl, hf⟩
      have HF := hid hf
      have HR := hid (HW.out _ hf)
      obtain ⟨g0, g1, g2, g3, gf, gl⟩ := HCE.out _ HR.out
      obtain ⟨c0, c1, c2, ⟨a3, q3, a4, q4, a5, q5, a6, q6, c3, c4, c5, c6, r3, r4, r5, r6, p3, p4, p5, p6⟩, fz, hl⟩ := HC.out _ HR.out
      clear hf HG HW HC HCE HR HZ g0 g1 g3 gf c0 c1 c2 c4 c5 c6 r3 r4 r5 r6 p3 p4 p5 p6 fz
      generalize x.w.length = XL at *
      go_wp2
      go_ret
      exact ⟨rfl, HK.out _ HF.out⟩
end Go.Proofs.Ytljkbnjdciljfaa
