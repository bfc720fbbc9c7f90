/- net: the document's net: Take, Close, Cut: walks. -/
import Derived.Test.YtljkbnjdciljfaaNRef3
namespace Go.Proofs.Ytljkbnjdciljfaa
open Go.RowKit

theorem goneE_nz (c : Int) : goneE c ≠ 0 := by unfold goneE; split <;> decide
theorem use_c (s : Np) (c : Int) : (useE s c ≠ 0 ∧ takeB s c = [] ∧ takeS s c = s ∧ closeS s c = s ∧ (∀ b, sendE s c b = useE s c ∧ sendS s c b = s ∧ writeS s c b = s) ∧ ∀ n, writeK s c n = 0) ∨ ∃ (n : Nat) (x : Cp), c = (n : Int) ∧ 1 ≤ n ∧ n ≤ 64 ∧ s.c n = some x ∧ x.shut = false ∧ useE s c = 0 := by
  cases hx : s.at c with
  | none =>
    refine Or.inl ⟨?_, ?_, ?_, ?_, fun b => ⟨?_, ?_, ?_⟩, fun n => ?_⟩
    · unfold useE; rw [hx]; exact goneE_nz c
    · unfold takeB; rw [hx]
    · unfold takeS; rw [hx]
    · unfold closeS; rw [hx]
    · unfold sendE useE; rw [hx]
    · unfold sendS; rw [hx]
    · unfold writeS; rw [hx]
    · unfold writeK; rw [hx]
  | some x =>
    obtain ⟨h1, h2⟩ := at_some hx
    cases hs : x.shut with
    | true =>
      refine Or.inl ⟨?_, ?_, ?_, ?_, fun b => ⟨?_, ?_, ?_⟩, fun n => ?_⟩
      · unfold useE; rw [hx]; simp [hs]
      · unfold takeB; rw [hx]; simp [hs]
      · unfold takeS; rw [hx]; simp [hs]
      · unfold closeS; rw [hx]; simp [hs]
      · unfold sendE useE; rw [hx]; simp [hs]
      · unfold sendS; rw [hx]; simp [hs]
      · unfold writeS; rw [hx]; simp [hs]
      · unfold writeK; rw [hx]; simp [hs]
    | false =>
      obtain ⟨n, rfl, k1, k2⟩ := isC_nat h1
      rw [Int.toNat_natCast] at h2
      exact Or.inr ⟨n, x, rfl, k1, k2, h2, hs, by unfold useE; rw [hx]; simp [hs]⟩
theorem find_c (s : Np) (c : Int) : (findE s c ≠ 0 ∧ cutE s c = findE s c ∧ cutS s c = s ∧ ∀ m, bringK s c m = 0 ∧ bringS s c m = s ∧ fetchK s c m = 0 ∧ fetchS s c m = s) ∨ ∃ (n : Nat) (x : Cp), c = (n : Int) ∧ 1 ≤ n ∧ n ≤ 64 ∧ s.c n = some x ∧ findE s c = 0 := by
  cases hx : s.at c with
  | none =>
    refine Or.inl ⟨?_, ?_, ?_, fun m => ⟨?_, ?_, ?_, ?_⟩⟩
    · unfold findE; rw [hx]; exact goneE_nz c
    · unfold cutE findE; rw [hx]
    · unfold cutS; rw [hx]
    · unfold bringK; rw [hx]
    · unfold bringS; rw [hx]
    · unfold fetchK; rw [hx]
    · unfold fetchS; rw [hx]
  | some x =>
    obtain ⟨h1, h2⟩ := at_some hx
    obtain ⟨n, rfl, k1, k2⟩ := isC_nat h1
    rw [Int.toNat_natCast] at h2
    exact Or.inr ⟨n, x, rfl, k1, k2, h2, by unfold findE; rw [hx]⟩
set_option maxHeartbeats 4000000 in
set_option maxRecDepth 100000 in
theorem rtake_any {W : World} {lo : Nat} {g : Rx} {s : Np} (h : RN W lo g s) (c : Int) : Calls Try.prog 39 #[.pointer (some ⟨g.G, 0, none⟩), .int .i64 c] W fun e w' => ∃ v, e = .returned (.tuple #[v, .int .i64 (useE s c)]) ∧ Rw w' lo 5 v (takeB s c) ∧ RNA W w' lo g (takeS s c) := by
  have HG := hid (gone_any h c true)
  rw [goneG_use] at HG
  rcases use_c s c with ⟨h1, h2, h3, _⟩ | ⟨n, x, rfl, k1, k2, hx, hs, h1⟩
  · rw [h2, h3]
    have hb : (useE s c != 0) = true := by simpa using h1
    generalize useE s c = E at *
    have HK := hid (fun w1 (hf : Fr W w1 (fun _ => False)) => h.keep hf)
    clear h h2 h3
    go_enter Try.func39, Try.ntmps39
    go_wp2_with fail
    refine HG.out.mono ?_
    rintro e w1 ⟨rfl, hf⟩
    have HF := hid hf
    clear hf HG
    go_wp2
    go_ret2
    exact ⟨_, rfl, Rw.nil _ _ _, HK.out _ HF.out⟩
  · rw [h1] at HG ⊢
    have hone := one_of k1 k2 hx
    obtain ⟨e1, e2⟩ := hone.take hs
    rw [e1]
    have HW : Hid (∀ w1, Fr W w1 (fun _ => False) → RN w1 lo g s) := fun w1 hf => h.still hf
    have HS := hid (fun w1 (h1 : RN w1 lo g s) => RN.took h1 (n := n) (by omega) hx e2)
    have HC := hid (fun w1 (h1 : RN w1 lo g s) => h1.co (n := n) (by omega))
    have HCE := hid (fun w1 (h1 : RN w1 lo g s) => h1.cells)
    rw [c_of hx] at HC
    have HN := hid (fun w1 (h1 : RN w1 lo g s) => RN.ne h1 (i := n) (j := 4) (by omega) (by omega) (by omega))
    have t0 : (0 : Int) ≤ (n : Int) := by omega
    have t1 : (n : Int) < 65 := by omega
    clear h h1 hone e1 e2 hx hs
    generalize takeS s n = s' at *
    generalize useE s n = E0 at *
    go_enter Try.func39, Try.ntmps39
    go_wp2_with fail
    refine HG.out.mono ?_
    rintro e w1 ⟨rfl, hf⟩
    have HF := hid hf
    have HR := hid (HW.out _ hf)
    obtain ⟨g0, g1, g2, g3, gf, gl⟩ := HCE.out _ HR.out
    obtain ⟨c0, c1, c2, ⟨a3, q3, a4, q4, a5, q5, a6, q6, c3, c4, c5, c6, r3, r4, r5, r6, p3, p4, p5, p6⟩, fz, hl⟩ := HC.out _ HR.out
    have hz4 := fz (n * 7 + 4)
    have HA := hid (RNA.pre hf (HS.out _ HR.out))
    have HP : Hid (Rw (w1.setCell ⟨g.L, n * 7 + 4, none⟩ (.slice none 0 0)) lo 5 (.slice a4 x.i.length q4) x.i) := p4.fr (set_fr w1 g.L _ _) (fun q hq e => by
      have h2 := (HN.out _ HR.out).2
      rw [r4] at h2
      exact h2 (by rw [hq, e]))
    clear hf HG HW HS HC HCE HN HR HF g0 g1 g3 gf c0 c1 c2 c3 c5 c6 r3 r4 r5 r6 p3 p4 p5 p6 fz
    generalize x.i.length = xl at *
    go_wp2
    go_ret2
    exact ⟨_, rfl, HP.out, HA.out⟩
set_option maxHeartbeats 4000000 in
set_option maxRecDepth 100000 in
theorem rclose_any {W : World} {lo : Nat} {g : Rx} {s : Np} (h : RN W lo g s) (c : Int) : Calls Try.prog 42 #[.pointer (some ⟨g.G, 0, none⟩), .int .i64 c] W fun e w' => e = .returned (.int .i64 (useE s c)) ∧ RNA W w' lo g (closeS s c) := by
  have HG := hid (gone_any h c true)
  rw [goneG_use] at HG
  rcases use_c s c with ⟨h1, _, _, h2, _⟩ | ⟨n, x, rfl, k1, k2, hx, hs, h1⟩
  · rw [h2]
    have hb : (useE s c != 0) = true := by simpa using h1
    generalize useE s c = E at *
    have HK := hid (fun w1 (hf : Fr W w1 (fun _ => False)) => h.keep hf)
    clear h h2
    go_enter Try.func42, Try.ntmps42
    go_wp2_with fail
    refine HG.out.mono ?_
    rintro e w1 ⟨rfl, hf⟩
    have HF := hid hf
    clear hf HG
    go_wp2
    go_ret
    exact ⟨rfl, HK.out _ HF.out⟩
  · rw [h1] at HG ⊢
    have e2 := (one_of k1 k2 hx).close hs
    have HW : Hid (∀ w1, Fr W w1 (fun _ => False) → RN w1 lo g s) := fun w1 hf => h.still hf
    have HS := hid (fun w1 (h1 : RN w1 lo g s) => RN.closed h1 (n := n) (by omega) hx e2)
    have HC := hid (fun w1 (h1 : RN w1 lo g s) => h1.co (n := n) (by omega))
    have HCE := hid (fun w1 (h1 : RN w1 lo g s) => h1.cells)
    have t0 : (0 : Int) ≤ (n : Int) := by omega
    have t1 : (n : Int) < 65 := by omega
    have hgl := h.gl
    clear h h1 e2 hx hs
    generalize closeS s n = s' at *
    go_enter Try.func42, Try.ntmps42
    go_wp2_with fail
    refine HG.out.mono ?_
    rintro e w1 ⟨rfl, hf⟩
    have HR := hid (HW.out _ hf)
    obtain ⟨g0, g1, g2, g3, gf, gl⟩ := HCE.out _ HR.out
    obtain ⟨c0, c1, c2, ⟨a3, q3, a4, q4, a5, q5, a6, q6, c3, c4, c5, c6, r3, r4, r5, r6, p3, p4, p5, p6⟩, fz, hl⟩ := HC.out _ HR.out
    have hz1 := fz (n * 7 + 1)
    have hz3 := fz (n * 7 + 3)
    have hz4 := fz (n * 7 + 4)
    have HA := hid (RNA.pre hf (HS.out _ HR.out))
    clear hf HG HW HS HC HCE HR g0 g1 g3 gf c0 c2 c5 c6 r3 r4 r5 r6 p3 p4 p5 p6 fz
    go_wp2
    go_ret
    exact ⟨rfl, HA.out⟩
set_option maxHeartbeats 4000000 in
set_option maxRecDepth 100000 in
theorem rcut_any {W : World} {lo : Nat} {g : Rx} {s : Np} (h : RN W lo g s) (c : Int) : Calls Try.prog 43 #[.pointer (some ⟨g.G, 0, none⟩), .int .i64 c] W fun e w' => e = .returned (.int .i64 (cutE s c)) ∧ RNA W w' lo g (cutS s c) := by
  have HG := hid (gone_any h c false)
  rw [goneG_find] at HG
  rcases find_c s c with ⟨h1, h3, h2, _⟩ | ⟨n, x, rfl, k1, k2, hx, h1⟩
  · rw [h2, h3]
    have hb : (findE s c != 0) = true := by simpa using h1
    generalize findE s c = E at *
    have HK := hid (fun w1 (hf : Fr W w1 (fun _ => False)) => h.keep hf)
    clear h h2 h3
    go_enter Try.func43, Try.ntmps43
    go_wp2_with fail
    refine HG.out.mono ?_
    rintro e w1 ⟨rfl, hf⟩
    have HF := hid hf
    clear hf HG
    go_wp2
    go_ret
    exact ⟨rfl, HK.out _ HF.out⟩
  · rw [h1] at HG
    have HW : Hid (∀ w1, Fr W w1 (fun _ => False) → RN w1 lo g s) := fun w1 hf => h.still hf
    have HC := hid (fun w1 (h1 : RN w1 lo g s) => h1.co (n := n) (by omega))
    rw [c_of hx] at HC
    have HCE := hid (fun w1 (h1 : RN w1 lo g s) => h1.cells)
    have t0 : (0 : Int) ≤ (n : Int) := by omega
    have t1 : (n : Int) < 65 := by omega
    have hgl := h.gl
    cases hct : x.ct with
    | true =>
      obtain ⟨e1, e2⟩ := (one_of k1 k2 hx).cutS_ hct
      rw [e1, e2]
      have HK := hid (fun w1 (hf : Fr W w1 (fun _ => False)) => h.keep hf)
      have HCT := hid hct
      clear h h1 e1 e2 hx hct
      go_enter Try.func43, Try.ntmps43
      go_wp2_with fail
      refine HG.out.mono ?_
      rintro e w1 ⟨rfl, hf⟩
      have HR := hid (HW.out _ hf)
      have HF := hid hf
      obtain ⟨g0, g1, g2, g3, gf, gl⟩ := HCE.out _ HR.out
      obtain ⟨c0, c1, c2, _, fz, hl⟩ := HC.out _ HR.out
      rw [HCT.out] at c2
      clear hf HG HW HC HCE HR g0 g1 g3 gf c0 c1 fz
      go_wp2
      go_ret
      exact ⟨rfl, HK.out _ HF.out⟩
    | false =>
      obtain ⟨e1, e2⟩ := (one_of k1 k2 hx).cut hct
      rw [e1]
      have HS := hid (fun w1 (h1 : RN w1 lo g s) => RN.cutt h1 (n := n) (by omega) hx e2)
      have HCT := hid hct
      clear h h1 e1 e2 hx hct
      generalize cutS s n = s' at *
      go_enter Try.func43, Try.ntmps43
      go_wp2_with fail
      refine HG.out.mono ?_
      rintro e w1 ⟨rfl, hf⟩
      have HR := hid (HW.out _ hf)
      obtain ⟨g0, g1, g2, g3, gf, gl⟩ := HCE.out _ HR.out
      obtain ⟨c0, c1, c2, ⟨a3, q3, a4, q4, a5, q5, a6, q6, c3, c4, c5, c6, r3, r4, r5, r6, p3, p4, p5, p6⟩, fz, hl⟩ := HC.out _ HR.out
      rw [HCT.out] at c2
      have hz2 := fz (n * 7 + 2)
      have hz3 := fz (n * 7 + 3)
      have hz4 := fz (n * 7 + 4)
      have hz5 := fz (n * 7 + 5)
      have HA := hid (RNA.pre hf (HS.out _ HR.out))
      clear hf HG HW HS HC HCE HR g0 g1 g3 gf c0 c1 c6 r3 r4 r5 r6 p3 p4 p5 p6 fz
      go_wp2
      go_ret
      exact ⟨rfl, HA.out⟩
end Go.Proofs.Ytljkbnjdciljfaa
