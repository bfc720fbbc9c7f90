/- MarkAnswers: the walk. -/
import Derived.Test.YtfmhdpenodmblabQAns1
namespace Go.Proofs.Ytfmhdpenodmblab
open Go.RowKit

theorem rise3 : riseS [noM] 0 3 = [3] ∧ leastL [3] = 3 ∧ leastL [noM] = noM := by decide
theorem repl1 : List.replicate 1 noM = [noM] := rfl
theorem three_one (a b c : Value) (ha : a.oneCell' = true) (hb : b.oneCell' = true) (hc : c.oneCell' = true) : ∀ u ∈ [a, b, c], u.oneCell' = true := by
  intro u hu
  simp at hu
  rcases hu with h | h | h <;> subst h <;> assumption
/-- A block for each of three that came one behind the other. -/
structure Fsh (w : World) (W : World) (l : List An) (ws : List Wn) (a b c : An) : Prop where
  na : ∀ q, a.ad = some ⟨q, 0, none⟩ → w.heap.size ≤ q ∧ (∀ j, j < l.length → (l.getD j an0).ad ≠ some ⟨q, 0, none⟩) ∧ (∀ j, j < ws.length → (ws.getD j wn0).ad ≠ some ⟨q, 0, none⟩)
  nb : ∀ q, b.ad = some ⟨q, 0, none⟩ → w.heap.size ≤ q ∧ (∀ j, j < l.length → (l.getD j an0).ad ≠ some ⟨q, 0, none⟩) ∧ (∀ j, j < ws.length → (ws.getD j wn0).ad ≠ some ⟨q, 0, none⟩)
  nc : ∀ q, c.ad = some ⟨q, 0, none⟩ → w.heap.size ≤ q ∧ (∀ j, j < l.length → (l.getD j an0).ad ≠ some ⟨q, 0, none⟩) ∧ (∀ j, j < ws.length → (ws.getD j wn0).ad ≠ some ⟨q, 0, none⟩)
  ab : ∀ q, a.ad = some ⟨q, 0, none⟩ → b.ad ≠ some ⟨q, 0, none⟩
  ac : ∀ q, a.ad = some ⟨q, 0, none⟩ → c.ad ≠ some ⟨q, 0, none⟩
  bc : ∀ q, b.ad = some ⟨q, 0, none⟩ → c.ad ≠ some ⟨q, 0, none⟩
theorem MJ.fresh {w : World} {B g B2 g2 : Nat} {um : Value} {vs : List Vw} {vA vW : Value} {l : List An} {ws : List Wn} {W : World} (p : MJ w B g B2 g2 um vs vA vW l ws W) {q : Nat} (hq : W.heap.size ≤ q) : w.heap.size ≤ q ∧ (∀ j, j < l.length → (l.getD j an0).ad ≠ some ⟨q, 0, none⟩) ∧ (∀ j, j < ws.length → (ws.getD j wn0).ad ≠ some ⟨q, 0, none⟩) :=
  ⟨by have := p.mi.fr.size; omega, fun j hj e => by have := (p.bk.each j hj).lt e; omega, fun j hj e => by have := (p.mi.wb.each j hj).lt e; omega⟩
theorem three_at {a b c : An} {P : An → Prop} (ha : P a) (hb : P b) (hc : P c) : ∀ k, k < [a, b, c].length → P ([a, b, c].getD k an0) := by
  intro k hk
  match k, hk with
  | 0, _ => exact ha
  | 1, _ => exact hb
  | 2, _ => exact hc
theorem three_atW {a b c : Wn} {P : Wn → Prop} (ha : P a) (hb : P b) (hc : P c) : ∀ k, k < [a, b, c].length → P ([a, b, c].getD k wn0) := by
  intro k hk
  match k, hk with
  | 0, _ => exact ha
  | 1, _ => exact hb
  | 2, _ => exact hc
theorem Fsh.apart {w W : World} {l : List An} {ws : List Wn} {a b c : An} (h : Fsh w W l ws a b c) : ∀ j k g, j < [a, b, c].length → k < [a, b, c].length → ([a, b, c].getD j an0).ad = some ⟨g, 0, none⟩ → ([a, b, c].getD k an0).ad = some ⟨g, 0, none⟩ → j = k := by
  intro j k g hj hk h1 h2
  match j, hj, k, hk with
  | 0, _, 0, _ => rfl
  | 1, _, 1, _ => rfl
  | 2, _, 2, _ => rfl
  | 0, _, 1, _ => exact absurd h2 (h.ab g h1)
  | 0, _, 2, _ => exact absurd h2 (h.ac g h1)
  | 1, _, 2, _ => exact absurd h2 (h.bc g h1)
  | 1, _, 0, _ => exact absurd h1 (h.ab g h2)
  | 2, _, 0, _ => exact absurd h1 (h.ac g h2)
  | 2, _, 1, _ => exact absurd h1 (h.bc g h2)
theorem MJ.more {w : World} {B g B2 g2 : Nat} {um : Value} {vs : List Vw} {vA vA' vW : Value} {l : List An} {ws : List Wn} {W W' : World} {a b c : An} (p : MJ w B g B2 g2 um vs vA vW l ws W) (hf : Fsh w W l ws a b c) (ha : AnAt W a) (hb : AnAt W b) (hc : AnAt W c) (la : a.L.length ≤ 256) (lb : b.L.length ≤ 256) (lc : c.L.length ≤ 256)
    (hown : W'.ownsRow w.heap.size 29 1 vA' (l.length + 3) (l.map An.val ++ [a.val, b.val, c.val])) (hg : W.grownBy W' vA.ownBlock) (hat : vA'.ownBlock = vA.ownBlock ∨ vA'.ownBlock = some W.heap.size) : MJ w B g B2 g2 um vs vA' vW (l ++ [a, b, c]) ws W' := by
  refine p.growA (p.bk.growM (m := [a, b, c]) (three_at ha hb hc) ?_ hf.apart (three_at (P := fun x => x.L.length ≤ 256) la lb lc) hown hg) hg hat ?_
  · intro k q hk hq
    have := three_at (P := fun x => ∀ q, x.ad = some ⟨q, 0, none⟩ → w.heap.size ≤ q ∧ (∀ j, j < l.length → (l.getD j an0).ad ≠ some ⟨q, 0, none⟩) ∧ (∀ j, j < ws.length → (ws.getD j wn0).ad ≠ some ⟨q, 0, none⟩)) hf.na hf.nb hf.nc k hk q hq
    exact ⟨this.1, this.2.1⟩
  · intro j k q hj hk hq
    rw [List.length_append] at hj
    rw [getD_app] at hq
    by_cases h : j < l.length
    · rw [if_pos h] at hq
      exact p.cross j k q h hk hq
    · rw [if_neg h] at hq
      have hj3 : j - l.length < [a, b, c].length := by omega
      exact (three_at (P := fun x => ∀ q, x.ad = some ⟨q, 0, none⟩ → w.heap.size ≤ q ∧ (∀ j, j < l.length → (l.getD j an0).ad ≠ some ⟨q, 0, none⟩) ∧ (∀ j, j < ws.length → (ws.getD j wn0).ad ≠ some ⟨q, 0, none⟩)) hf.na hf.nb hf.nc _ hj3 q hq).2.2 k hk
theorem MJ.moreW {w : World} {B g B2 g2 : Nat} {um : Value} {vs : List Vw} {vA vW vW' : Value} {l : List An} {ws : List Wn} {W W' : World} {a b c : Wn} (p : MJ w B g B2 g2 um vs vA vW l ws W) (na : ∀ q, a.ad = some ⟨q, 0, none⟩ → ∀ j, j < l.length → (l.getD j an0).ad ≠ some ⟨q, 0, none⟩) (nb : ∀ q, b.ad = some ⟨q, 0, none⟩ → ∀ j, j < l.length → (l.getD j an0).ad ≠ some ⟨q, 0, none⟩) (nc : ∀ q, c.ad = some ⟨q, 0, none⟩ → ∀ j, j < l.length → (l.getD j an0).ad ≠ some ⟨q, 0, none⟩) (ha : WnAt W a) (hb : WnAt W b) (hc : WnAt W c)
    (hown : W'.ownsRow w.heap.size 29 1 vW' (ws.length + 3) (ws.map Wn.val ++ [a.val, b.val, c.val])) (hg : W.grownBy W' vW.ownBlock) (hat : vW'.ownBlock = vW.ownBlock ∨ vW'.ownBlock = some W.heap.size) : MJ w B g B2 g2 um vs vA vW' l (ws ++ [a, b, c]) W' := by
  refine p.growW (p.mi.wb.growM (m := [a, b, c]) (three_atW ha hb hc) hown hg) hg hat ?_
  intro j k q hj hk hq e
  rw [List.length_append] at hk
  rw [getD_appW] at e
  by_cases h : k < ws.length
  · rw [if_pos h] at e
    exact p.cross j k q hj h hq e
  · rw [if_neg h] at e
    have hk3 : k - ws.length < [a, b, c].length := by omega
    exact three_atW (P := fun x => ∀ q, x.ad = some ⟨q, 0, none⟩ → ∀ j, j < l.length → (l.getD j an0).ad ≠ some ⟨q, 0, none⟩) na nb nc _ hk3 q e j hj hq
/-- The book's contents, three more. -/
theorem rr_more {vs : List Vw} {ts : List Int} {i : Nat} {l : List An} {a b c : An} (hl : l.length = 3 * i) (h : ∀ k, k < 3 * i → (l.getD k an0).L = RR vs ts k) (ha : a.L = opnL vs noM (ts.getD i 0)) (hb : b.L = opnL vs noM (ts.getD i 0)) (hc : c.L = opnL vs 3 (ts.getD i 0)) : ∀ k, k < 3 * (i + 1) → ((l ++ [a, b, c]).getD k an0).L = RR vs ts k := by
  intro k hk
  rw [getD_app, hl]
  by_cases h1 : k < 3 * i
  · rw [if_pos h1]; exact h k h1
  · rw [if_neg h1]
    have : k = 3 * i ∨ k = 3 * i + 1 ∨ k = 3 * i + 2 := by omega
    rcases this with rfl | rfl | rfl
    · rw [RR0, show 3 * i - 3 * i = 0 by omega]; exact ha
    · rw [RR1, show 3 * i + 1 - 3 * i = 1 by omega]; exact hb
    · rw [RR2, show 3 * i + 2 - 3 * i = 2 by omega]; exact hc
theorem rr_moreW {vs : List Vw} {ts : List Int} {i : Nat} {l : List Wn} {a b c : Wn} (hl : l.length = 3 * i) (h : ∀ k, k < 3 * i → (l.getD k wn0).L = RR vs ts k) (ha : a.L = opnL vs noM (ts.getD i 0)) (hb : b.L = opnL vs noM (ts.getD i 0)) (hc : c.L = opnL vs 3 (ts.getD i 0)) : ∀ k, k < 3 * (i + 1) → ((l ++ [a, b, c]).getD k wn0).L = RR vs ts k := by
  intro k hk
  rw [getD_appW, hl]
  by_cases h1 : k < 3 * i
  · rw [if_pos h1]; exact h k h1
  · rw [if_neg h1]
    have : k = 3 * i ∨ k = 3 * i + 1 ∨ k = 3 * i + 2 := by omega
    rcases this with rfl | rfl | rfl
    · rw [RR0, show 3 * i - 3 * i = 0 by omega]; exact ha
    · rw [RR1, show 3 * i + 1 - 3 * i = 1 by omega]; exact hb
    · rw [RR2, show 3 * i + 2 - 3 * i = 2 by omega]; exact hc

set_option maxHeartbeats 8000000 in
set_option maxRecDepth 100000 in
theorem answers_walk {w : World} {u1 u2 : Value} {vs : List Vw} {ts : List Int} (hvs : Vs w u1 vs ∧ Nz u1) (hts : Nu w u2 ts) : Calls Try.prog 4 #[u1, u2] w fun e w' => e = .returned (.bool true) ∧ Fr w w' (fun _ => False) := by
  have HVS := hid hvs.1
  have HNZ := hid hvs.2
  have HTS := hid hts
  obtain ⟨bo, cap1, rfl, hvl, _⟩ := id hvs.1
  obtain ⟨co, cap2, rfl, htl, _⟩ := id hts
  clear hvs hts
  obtain ⟨i0, hinfo, hz0, hz1, hz2⟩ := infoP Try.info_cells
  obtain ⟨r3, l3, lN⟩ := rise3
  have HN1 := hid (fun W : World => new_ok (n := 1) (by omega) (by omega) W)
  by_cases h100 : 100 < vs.length
  · have u1 : (100 : Int) < (vs.length : Int) := by omega
    go_enter Try.func4, Try.ntmps4
    go_wp2_with fail
    refine (HN1.out _).mono ?_
    rintro e w1 ⟨B, g, rfl, hK, hB, hg, hf⟩
    have HF := hid hf
    clear hK hf hB hg
    go_wp2_with fail
    refine (HN1.out _).mono ?_
    rintro e w2 ⟨B2, g2, rfl, hK, hB, hg, hf⟩
    have HF2 := hid (HF.out.trans hf)
    clear hK hf hB hg HF
    go_wp2_with fail
    refine (head_any _).mono ?_
    rintro e w6 ⟨rfl, hf6⟩
    have HF6 := hid (HF2.out.trans hf6)
    clear hf6
    go_wp2_with fail
    go_ret
    exact ⟨rfl, HF6.out⟩
  · have u1 : ¬ (100 : Int) < (vs.length : Int) := by omega
    have h100' : vs.length ≤ 100 := by omega
    clear h100
    go_enter Try.func4, Try.ntmps4
    go_wp2_with fail
    refine (HN1.out _).mono ?_
    rintro e w1 ⟨B, g, rfl, hK, hB, hg, hf⟩
    rw [repl1] at hK
    have HK := hid hK
    have HF := hid hf
    have HBG := hid (And.intro hB hg)
    clear hK hf hB hg
    go_wp2_with fail
    refine (HN1.out _).mono ?_
    rintro e w2 ⟨B2, g2, rfl, hK2, hB2, hg2, hf2⟩
    rw [repl1] at hK2
    have HK1 := hid (HK.out.fr hf2 (fun h => h) (fun h => h))
    have HK2 := hid hK2
    have HF2 := hid (HF.out.trans hf2)
    have HNE : Hid (g ≠ g2 ∧ w.heap.size ≤ g2) := by
      have h1 := HK.out.lt
      have h2 := HF.out.size
      exact ⟨by omega, by omega⟩
    clear hK2 hB2 hg2 hf2 HK HF HN1
    go_wp2_with fail
    refine (rise_any HK2.out 0 3).mono ?_
    rintro e w3 ⟨rfl, hk3, hf3⟩
    rw [r3] at hk3
    have HK31 := hid (HK1.out.fr hf3 (km_ne HK1.out HK2.out) HNE.out.1)
    have HK32 := hid hk3
    have HF3 := hid (HF2.out.trans2 hf3 (fun i hi e => by have := HNE.out.2; omega))
    clear hk3 hf3 HK1 HK2 HF2 HNE
    generalize riseR [noM] 0 3 = rr at *
    go_wp2_with fail
    refine (lend_any (HVS.out.fr HF3.out (fun _ _ _ _ _ h => h)) HNZ.out h100').mono ?_
    rintro e w4 ⟨um, rfl, hln, hf4⟩
    obtain ⟨gm, cm, rm, eum, q1, q2, q3, q4⟩ := hln.at'
    have HMI : Hid (MJ w B g B2 g2 um vs (.slice none 0 0) (.slice none 0 0) [] [] w4) := by
      refine ⟨⟨HK31.out.fr hf4 (fun h => h) (fun h => h), HK32.out.fr hf4 (fun h => h) (fun h => h), ⟨gm, cm, rm, eum, q1, q2, ?_, q4⟩, Wb.nil w w4, HF3.out.trans hf4⟩, Bk.nil w (HF3.out.trans hf4), fun j k q hj => by simp at hj, fun k hk => by simp [Value.ownBlock] at hk⟩
      have := HF3.out.size
      omega
    subst eum
    clear hln hf4 q1 q2 q3 q4 HK31 HK32 HF3 HBG
    have HVL := hid (fun (W : World) (vA vW : Value) (l : List An) (ws : List Wn) (hp : MJ w B g B2 g2 (.slice (some ⟨gm, 0, none⟩) vs.length cm) vs vA vW l ws W) => hp.mi.ln.vs h100')
    go_wp2_with fail
    go_loopg [10, 11, 12, 13, 14, 15, 16, 17, 18, 19, 20, 21] (min ts.length 15) (fun n s10 s11 s12 s13 s14 s15 s16 s17 s18 s19 s20 s21 wx => ∃ (i : Nat) (l : List An) (ws : List Wn), s12 = .int .i64 (i : Int) ∧ Hid (i + n = min ts.length 15) ∧ Hid (l.length = 3 * i ∧ ws.length = 3 * i) ∧ Hid (∀ k, k < 3 * i → (l.getD k an0).L = RR vs ts k) ∧ Hid (∀ k, k < 3 * i → (ws.getD k wn0).L = RR vs ts k) ∧ Hid (MJ w B g B2 g2 (.slice (some ⟨gm, 0, none⟩) vs.length cm) vs s10 s11 l ws wx))
    case atStart => exact ⟨0, [], [], rfl, by show _ = _; omega, ⟨rfl, rfl⟩, (by intro k hk; omega), (by intro k hk; omega), HMI⟩
    case round =>
      obtain ⟨i, l, ws, rfl, HG, HLL, HRL, HRW, HP1⟩ := hrel
      clear HMI
      obtain ⟨a10, c10, e10⟩ := own_nil_shape HP1.out.bk.own
      subst e10
      obtain ⟨a11, c11, e11⟩ := own_nil_shape HP1.out.mi.wb.own
      subst e11
      cases gk with
      | succ n =>
        have hi : i < ts.length := by have := HG.out; omega
        have t1 : (i : Int) < (ts.length : Int) := by omega
        have t2 : (i : Int) < 15 := by have := HG.out; omega
        obtain ⟨bt, ot, rfl, _, _⟩ := (HTS.out.fr HP1.out.mi.fr).at hi
        have HCT : Hid (∀ W : World, Fr w W (fun _ => False) → W.cell? ⟨bt, ot + i, none⟩ = some (.int .i64 (ts.getD i 0)) ∧ bt < W.heap.size) := fun W hW => by
          obtain ⟨b', off', e, h1, h2⟩ := (HTS.out.fr hW).at hi
          simp only [Option.some.injEq, Addr.mk.injEq, and_true] at e
          obtain ⟨rfl, rfl⟩ := e
          exact ⟨h1, World.block_lt_of_cell? W _ h1⟩
        have HO1 := hid (fun (W : World) (hp : MJ w B g B2 g2 (.slice (some ⟨gm, 0, none⟩) vs.length cm) vs (.slice a10 l.length c10) (.slice a11 ws.length c11) l ws W) => mopen_any hp.mi.k1 (HVL.out _ _ _ _ _ hp) (ts.getD i 0))
        have HO2 := hid (fun (W : World) (hp : MJ w B g B2 g2 (.slice (some ⟨gm, 0, none⟩) vs.length cm) vs (.slice a10 l.length c10) (.slice a11 ws.length c11) l ws W) => mopen_any hp.mi.k2 (HVL.out _ _ _ _ _ hp) (ts.getD i 0))
        rw [lN] at HO1
        rw [l3] at HO2
        have HM1 := hid (fun (a b c : An) h1 h2 h3 => rr_more (vs := vs) (ts := ts) (a := a) (b := b) (c := c) HLL.out.1 HRL.out h1 h2 h3)
        have HM2 := hid (fun (a b c : Wn) h1 h2 h3 => rr_moreW (vs := vs) (ts := ts) (a := a) (b := b) (c := c) HLL.out.2 HRW.out h1 h2 h3)
        have HL1 := hid (opnL_256 vs noM (ts.getD i 0))
        have HL2 := hid (opnL_256 vs 3 (ts.getD i 0))
        generalize opnL vs noM (ts.getD i 0) = X at *
        generalize opnL vs 3 (ts.getD i 0) = Z at *
        generalize opnB vs noM (ts.getD i 0) = xb at *
        generalize opnB vs 3 (ts.getD i 0) = zb at *
        generalize chkN vs (ts.getD i 0) = oc at *
        generalize ts.getD i 0 = tt at *
        have HI := hid hi
        clear hi
        obtain ⟨ct, hbt⟩ := HCT.out _ HP1.out.mi.fr
        go_wp2_with fail
        refine (HO1.out _ HP1.out).mono ?_
        rintro e w5 ⟨x1, rfl, hco1, hf5⟩
        obtain ⟨a, rfl, haL, haA, haN⟩ := hco1.an
        have HNA : Hid (∀ q, a.ad = some ⟨q, 0, none⟩ → w.heap.size ≤ q ∧ (∀ j, j < l.length → (l.getD j an0).ad ≠ some ⟨q, 0, none⟩) ∧ (∀ j, j < ws.length → (ws.getD j wn0).ad ≠ some ⟨q, 0, none⟩)) := fun q hq => HP1.out.fresh (haN q hq).1
        have HP5 := hid (HP1.out.step hf5)
        have HA5 := hid haA
        have HAL := hid haL
        have HAB : Hid (∀ q, a.ad = some ⟨q, 0, none⟩ → q < w5.heap.size) := fun q hq => (haN q hq).2
        clear hco1 hf5 haA haL haN HP1 ct hbt
        obtain ⟨ct, hbt⟩ := HCT.out _ HP5.out.mi.fr
        unfold An.val
        go_wp2_with fail
        refine (HO1.out _ HP5.out).mono ?_
        rintro e w6 ⟨x2, rfl, hco2, hf6⟩
        obtain ⟨b, rfl, hbL, hbA, hbN⟩ := hco2.an
        have HNB : Hid (∀ q, b.ad = some ⟨q, 0, none⟩ → w.heap.size ≤ q ∧ (∀ j, j < l.length → (l.getD j an0).ad ≠ some ⟨q, 0, none⟩) ∧ (∀ j, j < ws.length → (ws.getD j wn0).ad ≠ some ⟨q, 0, none⟩)) := fun q hq => HP5.out.fresh (hbN q hq).1
        have HPAB : Hid (∀ q, a.ad = some ⟨q, 0, none⟩ → b.ad ≠ some ⟨q, 0, none⟩) := fun q h1 h2 => by have := HAB.out q h1; have := (hbN q h2).1; omega
        have HP6 := hid (HP5.out.step hf6)
        have HA6 := hid (HA5.out.fr hf6 (fun _ _ h => h))
        have HB6 := hid hbA
        have HBL := hid hbL
        have HAB6 : Hid (∀ q, a.ad = some ⟨q, 0, none⟩ → q < w6.heap.size) := fun q hq => by have := HAB.out q hq; have := hf6.size; omega
        have HBB : Hid (∀ q, b.ad = some ⟨q, 0, none⟩ → q < w6.heap.size) := fun q hq => (hbN q hq).2
        clear hco2 hf6 hbA hbL hbN HP5 HA5 HAB ct hbt HO1
        obtain ⟨ct, hbt⟩ := HCT.out _ HP6.out.mi.fr
        unfold An.val
        go_wp2_with fail
        refine (HO2.out _ HP6.out).mono ?_
        rintro e w7 ⟨x3, rfl, hco3, hf7⟩
        obtain ⟨c, rfl, hcL, hcA, hcN⟩ := hco3.an
        have HNC : Hid (∀ q, c.ad = some ⟨q, 0, none⟩ → w.heap.size ≤ q ∧ (∀ j, j < l.length → (l.getD j an0).ad ≠ some ⟨q, 0, none⟩) ∧ (∀ j, j < ws.length → (ws.getD j wn0).ad ≠ some ⟨q, 0, none⟩)) := fun q hq => HP6.out.fresh (hcN q hq).1
        have HFS : Hid (Fsh w w7 l ws a b c) := ⟨HNA.out, HNB.out, HNC.out, HPAB.out, fun q h1 h2 => by have := HAB6.out q h1; have := (hcN q h2).1; omega, fun q h1 h2 => by have := HBB.out q h1; have := (hcN q h2).1; omega⟩
        have HP7 := hid (HP6.out.step hf7)
        have HA7 := hid (HA6.out.fr hf7 (fun _ _ h => h))
        have HB7 := hid (HB6.out.fr hf7 (fun _ _ h => h))
        have HC7 := hid hcA
        have HCLL := hid hcL
        clear hco3 hf7 hcA hcL hcN HP6 HA6 HB6 HAB6 HBB ct hbt HO2 HCT HNA HNB HNC HPAB
        obtain ⟨aad, aL⟩ := a
        obtain ⟨bad, bL⟩ := b
        obtain ⟨cad, cL⟩ := c
        have eA : aL = X := HAL.out
        have eB : bL = X := HBL.out
        have eC : cL = Z := HCLL.out
        subst eA eC
        have eB' : aL = bL := eB.symm
        subst eB'
        clear eB HAL HBL HCLL
        unfold An.val
        have hll : l.length ≤ 45 := by have := HLL.out; have := HG.out; omega
        have hwl : ws.length ≤ 45 := by have := HLL.out; have := HG.out; omega
        go_wp2_with (at_builtin; go_must (refine wpList_append_own_at _ rfl (.tmp 109) (.tmp 113) 28 rfl w.heap.size 29 i0 (.slice none 0 0) 1 24 Try.underlying28 hinfo hz0 hz1 hz2 rfl (by decide) _ _ _ rfl (HP7.out.bk.own.alloc _) ⟨w7.heap.size, 0, none⟩ 3 3 [.slice aad aL.length aL.length, .slice bad aL.length aL.length, .slice cad cL.length cL.length] rfl rfl ?c1 ?c2 ?c3 ?c4 ?c5 ?_))
        case c1 =>
          intro j u hj
          have hy := heap_last w7 (.cells #[.slice aad aL.length aL.length, .slice bad aL.length aL.length, .slice cad cL.length cL.length] 29) _ rfl
          rw [Addr.add_lit, Nat.zero_add, cell_of_row _ _ j _ _ (0, 0) hy]
          simpa using hj
        case c2 => exact three_one _ _ _ rfl rfl rfl
        case c3 => unfold maxLen; omega
        case c4 => omega
        case c5 => have := HP7.out.mi.fr.size; simp; omega
        intro v8 w8 hown8 hg8 _ hat8
        have hfa := alloc_fr w7 (.cells #[.slice aad aL.length aL.length, .slice bad aL.length aL.length, .slice cad cL.length cL.length] 29) (fun _ => False)
        have HP8 := hid ((HP7.out.step hfa).more (a := ⟨aad, aL⟩) (b := ⟨bad, aL⟩) (c := ⟨cad, cL⟩) ⟨HFS.out.na, HFS.out.nb, HFS.out.nc, HFS.out.ab, HFS.out.ac, HFS.out.bc⟩ (HA7.out.fr hfa (fun _ _ h => h)) (HB7.out.fr hfa (fun _ _ h => h)) (HC7.out.fr hfa (fun _ _ h => h)) HL1.out HL1.out HL2.out hown8 hg8 (by simpa using hat8))
        obtain ⟨a8, c8, rfl⟩ := own_nil_shape hown8
        clear hown8 hg8 hat8 hfa HP7 HA7 HB7 HC7 HFS
        have HM1' := hid (HM1.out ⟨aad, aL⟩ ⟨bad, aL⟩ ⟨cad, cL⟩ rfl rfl rfl)
        have HLa : Hid ((l ++ [⟨aad, aL⟩, ⟨bad, aL⟩, ⟨cad, cL⟩] : List An).length = 3 * (i + 1)) := by show _ = _; rw [List.length_append, HLL.out.1]; simp; omega
        have HPa : Hid (∀ W, MJ w B g B2 g2 (.slice (some ⟨gm, 0, none⟩) vs.length cm) vs (.slice a8 (l.length + 3) c8) (.slice a11 ws.length c11) (l ++ [⟨aad, aL⟩, ⟨bad, aL⟩, ⟨cad, cL⟩]) ws W → AnAt W ⟨aad, aL⟩ ∧ AnAt W ⟨cad, cL⟩) := fun W hp => by
          have h1 := hp.bk.each (l.length) (by rw [List.length_append]; simp)
          have h2 := hp.bk.each (l.length + 2) (by rw [List.length_append]; simp)
          rw [getD_app, if_neg (by omega), Nat.sub_self] at h1
          rw [getD_app, if_neg (by omega), show l.length + 2 - l.length = 2 by omega] at h2
          exact ⟨h1, h2⟩
        generalize (l ++ [⟨aad, aL⟩, ⟨bad, aL⟩, ⟨cad, cL⟩] : List An) = l' at *
        clear HM1 HRL
        go_wp2_with fail
        refine (copied_any (HPa.out _ HP8.out).1 HL1.out).mono ?_
        rintro e w9 ⟨d, rfl, hdL, hdA, hdN, hf9⟩
        have HND : Hid (∀ q, d.ad = some ⟨q, 0, none⟩ → ∀ j, j < l'.length → (l'.getD j an0).ad ≠ some ⟨q, 0, none⟩) := fun q hq => (HP8.out.fresh (hdN q hq).1).2.1
        have HP9 := hid (HP8.out.step hf9)
        have HD9 := hid hdA
        have HDL := hid hdL
        clear hdA hdL hdN hf9 HP8
        obtain ⟨dad, dc, dL⟩ := d
        have eD : dL = aL := HDL.out
        subst eD
        clear HDL
        unfold Wn.val
        go_wp2_with fail
        refine (copied_any (HPa.out _ HP9.out).1 HL1.out).mono ?_
        rintro e w10 ⟨d2, rfl, hdL, hdA, hdN, hf10⟩
        have HND2 : Hid (∀ q, d2.ad = some ⟨q, 0, none⟩ → ∀ j, j < l'.length → (l'.getD j an0).ad ≠ some ⟨q, 0, none⟩) := fun q hq => (HP9.out.fresh (hdN q hq).1).2.1
        have HP10 := hid (HP9.out.step hf10)
        have HD10 := hid (HD9.out.fr hf10 (fun _ _ h => h))
        have HE10 := hid hdA
        have HDL := hid hdL
        clear hdA hdL hdN hf10 HP9 HD9
        obtain ⟨ead, ec, eL⟩ := d2
        have eD : eL = dL := HDL.out
        subst eD
        clear HDL
        unfold Wn.val
        go_wp2_with fail
        refine (copied_any (HPa.out _ HP10.out).2 HL2.out).mono ?_
        rintro e w11 ⟨d3, rfl, hdL, hdA, hdN, hf11⟩
        have HND3 : Hid (∀ q, d3.ad = some ⟨q, 0, none⟩ → ∀ j, j < l'.length → (l'.getD j an0).ad ≠ some ⟨q, 0, none⟩) := fun q hq => (HP10.out.fresh (hdN q hq).1).2.1
        have HP11 := hid (HP10.out.step hf11)
        have HD11 := hid (HD10.out.fr hf11 (fun _ _ h => h))
        have HE11 := hid (HE10.out.fr hf11 (fun _ _ h => h))
        have HF11 := hid hdA
        have HDL := hid hdL
        clear hdA hdL hdN hf11 HP10 HD10 HE10
        obtain ⟨fad, fc, fL⟩ := d3
        have eD : fL = cL := HDL.out
        subst eD
        clear HDL HPa
        unfold Wn.val
        go_wp2_with (at_builtin; go_must (refine wpList_append_own_at _ rfl (.tmp 115) (.tmp 122) 28 rfl w.heap.size 29 i0 (.slice none 0 0) 1 24 Try.underlying28 hinfo hz0 hz1 hz2 rfl (by decide) _ _ _ rfl (HP11.out.mi.wb.own.alloc _) ⟨w11.heap.size, 0, none⟩ 3 3 [.slice dad eL.length dc, .slice ead eL.length ec, .slice fad fL.length fc] rfl rfl ?f1 ?f2 ?f3 ?f4 ?f5 ?_))
        case f1 =>
          intro j u hj
          have hy := heap_last w11 (.cells #[.slice dad eL.length dc, .slice ead eL.length ec, .slice fad fL.length fc] 29) _ rfl
          rw [Addr.add_lit, Nat.zero_add, cell_of_row _ _ j _ _ (0, 0) hy]
          simpa using hj
        case f2 => exact three_one _ _ _ rfl rfl rfl
        case f3 => unfold maxLen; omega
        case f4 => omega
        case f5 => have := HP11.out.mi.fr.size; simp; omega
        intro v12 w12 hown12 hg12 _ hat12
        have hfa := alloc_fr w11 (.cells #[.slice dad eL.length dc, .slice ead eL.length ec, .slice fad fL.length fc] 29) (fun _ => False)
        have HP12 := hid ((HP11.out.step hfa).moreW (a := ⟨dad, dc, eL⟩) (b := ⟨ead, ec, eL⟩) (c := ⟨fad, fc, fL⟩) HND.out HND2.out HND3.out (HD11.out.fr hfa (fun _ _ h => h)) (HE11.out.fr hfa (fun _ _ h => h)) (HF11.out.fr hfa (fun _ _ h => h)) hown12 hg12 (by simpa using hat12))
        obtain ⟨a12, c12, rfl⟩ := own_nil_shape hown12
        clear hown12 hg12 hat12 hfa HP11 HD11 HE11 HF11 HND HND2 HND3
        have HM2' := hid (HM2.out ⟨dad, dc, eL⟩ ⟨ead, ec, eL⟩ ⟨fad, fc, fL⟩ rfl rfl rfl)
        have HLw : Hid ((ws ++ [⟨dad, dc, eL⟩, ⟨ead, ec, eL⟩, ⟨fad, fc, fL⟩] : List Wn).length = 3 * (i + 1)) := by show _ = _; rw [List.length_append, HLL.out.2]; simp; omega
        generalize (ws ++ [⟨dad, dc, eL⟩, ⟨ead, ec, eL⟩, ⟨fad, fc, fL⟩] : List Wn) = ws' at *
        go_wp2_with fail
        go_roundg n
        case measure => omega
        case rel => exact ⟨i + 1, l', ws', by go_num, by have := HG.out; show _ = _; omega, ⟨HLa.out, HLw.out⟩, HM1', HM2', HP12⟩
      | zero =>
        have hc : ¬ (i : Int) < (ts.length : Int) ∨ ((i : Int) < (ts.length : Int) ∧ ¬ (i : Int) < 15) := by have := HG.out; omega
        have hi15 : i ≤ 15 := by have := HG.out; omega
        have HIM : Hid (i = min ts.length 15) := by have := HG.out; show _ = _; omega
        have HAP := hid (apart_any HP1.out.bk HP1.out.mi.wb HLL.out.1 HLL.out.2 (by omega) (fun k hk => by rw [HRW.out k hk, HRL.out k hk]) (fun j k q hj hk h1 => HP1.out.cross j k q (by rw [HLL.out.1]; exact hj) (by rw [HLL.out.2]; exact hk) h1))
        have HS : Hid (∀ k, (∃ j, j < 3 * i ∧ (l.getD j an0).ad = some ⟨k, 0, none⟩) → w.heap.size ≤ k ∧ ∃ t cs, wr.heap[k]? = some (.cells cs t (0, 0)) ∧ (t = 29 ∨ t = 37)) := fun k ⟨j, hj, hk⟩ => by
          have hj' : j < l.length := by rw [HLL.out.1]; exact hj
          obtain ⟨cs, hcs⟩ := (HP1.out.bk.each j hj').kind hk
          exact ⟨HP1.out.bk.new j k hj' hk, _, cs, hcs, Or.inr rfl⟩
        have HLW := hid HLL.out.2
        have e10 := HLL.out.1
        have e11 := HLL.out.2
        rw [e10] at HAP HP1 ⊢
        rw [e11] at HAP HP1 ⊢
        have HLEN : Hid (l.length = 3 * i) := e10
        clear e10 e11 HLL HRL HG
        rcases hc with t1 | ⟨t1, t2⟩
        all_goals
          go_wp2_with fail
          refine HAP.out.mono ?_
          rintro e w5 ⟨rfl, hf5⟩
          have HM5 : Hid (MI w B g B2 g2 (.slice (some ⟨gm, 0, none⟩) vs.length cm) vs (.slice a11 (3 * i) c11) ws w5) := by
            refine HP1.out.mi.keep hf5 HS.out (fun k hk ⟨j, hj, hjk⟩ => ?_) (fun k q hk hq ⟨j, hj, hjk⟩ => HP1.out.cross j k q (by rw [HLEN.out]; exact hj) hk hjk hq)
            obtain ⟨cs, hcs⟩ := (HP1.out.bk.each j (by rw [HLEN.out]; exact hj)).kind hjk
            exact own_ne HP1.out.mi.wb.own hcs (by decide) hk
          clear hf5 HAP HP1 HS
          have HKP := hid (kept_any HM5.out.ln (HVS.out.fr HM5.out.fr (fun _ _ _ _ _ h => h)) h100')
          go_wp2_with fail
          refine HKP.out.mono ?_
          rintro e w6 ⟨rfl, hf6⟩
          have HM6 := hid (HM5.out.step hf6)
          clear hf6 HM5 HKP
          go_wp2_with fail
          go_loopg [22, 23, 24, 25, 26, 27, 28] i (fun n s22 s23 s24 s25 s26 s27 s28 wx => ∃ (j : Nat), s22 = .int .i64 (j : Int) ∧ Hid (j + n = i) ∧ Hid (MI w B g B2 g2 (.slice (some ⟨gm, 0, none⟩) vs.length cm) vs (.slice a11 (3 * i) c11) ws wx))
          case atStart => exact ⟨0, rfl, by show _ = _; omega, HM6⟩
          case round =>
            obtain ⟨j, rfl, HJ, HM7⟩ := hrel
            clear HM6
            cases gk with
            | zero =>
              have hc2 : ¬ (j : Int) < (ts.length : Int) ∨ ((j : Int) < (ts.length : Int) ∧ ¬ (j : Int) < 15) := by have := HJ.out; have := HIM.out; omega
              rcases hc2 with t3 | ⟨t3, t4⟩
              all_goals
                go_wp2_with fail
                refine (head_any _).mono ?_
                rintro e w7 ⟨rfl, hf7⟩
                have HS7 := hid (HM7.out.fr.trans hf7)
                clear hf7
                go_wp2_with fail
                go_ret
                exact ⟨rfl, HS7.out⟩
            | succ n =>
              have hj : j < ts.length := by have := HJ.out; have := HIM.out; omega
              have t3 : (j : Int) < (ts.length : Int) := by omega
              have t4 : (j : Int) < 15 := by have := HJ.out; omega
              have hji : 3 * j + 2 < 3 * i := by have := HJ.out; omega
              obtain ⟨bt, ot, rfl, _, _⟩ := (HTS.out.fr HM7.out.fr).at hj
              have HCT : Hid (∀ W : World, Fr w W (fun _ => False) → W.cell? ⟨bt, ot + j, none⟩ = some (.int .i64 (ts.getD j 0)) ∧ bt < W.heap.size) := fun W hW => by
                obtain ⟨b', off', e, h1, h2⟩ := (HTS.out.fr hW).at hj
                simp only [Option.some.injEq, Addr.mk.injEq, and_true] at e
                obtain ⟨rfl, rfl⟩ := e
                exact ⟨h1, World.block_lt_of_cell? W _ h1⟩
              have HO1 := hid (fun (W : World) (hp : MI w B g B2 g2 (.slice (some ⟨gm, 0, none⟩) vs.length cm) vs (.slice a11 (3 * i) c11) ws W) => mopen_any hp.k1 (hp.ln.vs h100') (ts.getD j 0))
              have HO2 := hid (fun (W : World) (hp : MI w B g B2 g2 (.slice (some ⟨gm, 0, none⟩) vs.length cm) vs (.slice a11 (3 * i) c11) ws W) => mopen_any hp.k2 (hp.ln.vs h100') (ts.getD j 0))
              rw [lN] at HO1
              rw [l3] at HO2
              have HR0 := hid (HRW.out (3 * j) (by omega))
              have HR2 := hid (HRW.out (3 * j + 2) (by omega))
              rw [RR0] at HR0
              rw [RR2] at HR2
              have HL1 := hid (opnL_256 vs noM (ts.getD j 0))
              have HL2 := hid (opnL_256 vs 3 (ts.getD j 0))
              obtain ⟨gs, cs, hsv, _, _⟩ := HM7.out.wb.at (k := 3 * j) (by rw [HLW.out]; omega)
              rw [HLW.out] at hsv
              cases hsv
              have HSP : Hid (∀ W, MI w B g B2 g2 (.slice (some ⟨gm, 0, none⟩) vs.length cm) vs (.slice (some ⟨gs, 0, none⟩) (3 * i) c11) ws W → (W.cell? ⟨gs, 3 * j, none⟩ = some (ws.getD (3 * j) wn0).val ∧ W.cell? ⟨gs, 3 * j + 2, none⟩ = some (ws.getD (3 * j + 2) wn0).val ∧ gs < W.heap.size) ∧ Cr W (ws.getD (3 * j) wn0).val (opnL vs noM (ts.getD j 0)) ∧ Cr W (ws.getD (3 * j + 2) wn0).val (opnL vs 3 (ts.getD j 0))) := fun W hp => by
                obtain ⟨gs', cs', e1, h1, h2⟩ := hp.wb.at (k := 3 * j) (by rw [HLW.out]; omega)
                obtain ⟨gs2, cs2, e2, h3, _⟩ := hp.wb.at (k := 3 * j + 2) (by rw [HLW.out]; omega)
                simp only [Value.slice.injEq, Option.some.injEq, Addr.mk.injEq, and_true] at e1 e2
                obtain ⟨rfl, _⟩ := e1
                obtain ⟨rfl, _⟩ := e2
                refine ⟨⟨h1, h3, h2⟩, ?_, ?_⟩
                · have := (hp.wb.each (3 * j) (by rw [HLW.out]; omega)).cr (by rw [HR0.out]; have := HL1.out; omega)
                  rw [HR0.out] at this
                  exact this
                · have := (hp.wb.each (3 * j + 2) (by rw [HLW.out]; omega)).cr (by rw [HR2.out]; have := HL2.out; omega)
                  rw [HR2.out] at this
                  exact this
              generalize (ws.getD (3 * j) wn0).val = uk0 at *
              generalize (ws.getD (3 * j + 2) wn0).val = uk2 at *
              generalize opnL vs noM (ts.getD j 0) = X at *
              generalize opnL vs 3 (ts.getD j 0) = Z at *
              generalize opnB vs noM (ts.getD j 0) = xb at *
              generalize opnB vs 3 (ts.getD j 0) = zb at *
              generalize chkN vs (ts.getD j 0) = oc at *
              generalize ts.getD j 0 = tt at *
              have HJL := hid hj
              clear hj HR0 HR2
              obtain ⟨ct, hbt⟩ := HCT.out _ HM7.out.fr
              go_wp2_with fail
              refine (HO1.out _ HM7.out).mono ?_
              rintro e w7 ⟨x1, rfl, hco1, hf7⟩
              have HM8 := hid (HM7.out.step hf7)
              have HC1 := hid (hco1.cr (by have := HL1.out; omega))
              obtain ⟨ao1, rfl⟩ := hco1.shape
              clear hco1 hf7 HM7 ct hbt
              obtain ⟨ct, hbt⟩ := HCT.out _ HM8.out.fr
              go_wp2_with fail
              refine (HO2.out _ HM8.out).mono ?_
              rintro e w8 ⟨x2, rfl, hco2, hf8⟩
              have HM9 := hid (HM8.out.step hf8)
              have HC2 := hid (hco2.cr (by have := HL2.out; omega))
              have HC3 := hid (HC1.out.fr hf8)
              obtain ⟨ao2, rfl⟩ := hco2.shape
              clear hco2 hf8 HM8 ct hbt HC1 HCT
              obtain ⟨⟨s0, s2, hgs⟩, h0, h2⟩ := HSP.out _ HM9.out
              have HS1 := hid (same_true HC3.out h0)
              have HD2 := hid h2
              have k1 : (3 : Int) * (j : Int) < ((3 * i : Nat) : Int) := by omega
              have k2 : (3 : Int) * (j : Int) + 2 < ((3 * i : Nat) : Int) := by omega
              have k3 : (3 : Int) * (j : Int) ≤ 45 := by omega
              have k4 : (0 : Int) ≤ 3 * (j : Int) := by omega
              generalize 3 * i = N3 at *
              clear h0 h2
              go_wp2_with fail
              refine HS1.out.mono ?_
              rintro e w9 ⟨rfl, hf9⟩
              have HMa := hid (HM9.out.step hf9)
              have HS2 := hid (same_true (HC2.out.fr hf9) (HD2.out.fr hf9))
              clear hf9 HM9 HS1 HC2 HC3 HD2 s0 s2 hgs
              obtain ⟨⟨s0, s2, hgs⟩, _, _⟩ := HSP.out _ HMa.out
              go_wp2_with fail
              refine HS2.out.mono ?_
              rintro e w10 ⟨rfl, hf10⟩
              have HMb := hid (HMa.out.step hf10)
              clear hf10 HMa HS2 s0 s2 hgs
              go_wp2_with fail
              go_roundg n
              case measure => omega
              case rel => exact ⟨j + 1, by go_num, by have := HJ.out; show _ = _; omega, HMb⟩
end Go.Proofs.Ytfmhdpenodmblab
