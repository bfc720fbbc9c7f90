/- MarkOwn: the walk. -/
import Derived.Test.YtfmhdpenodmblabQBook
import Derived.Maps.AppendAt
namespace Go.Proofs.Ytfmhdpenodmblab
open Go.RowKit

theorem km_ne {W : World} {B g B2 g2 : Nat} {ms ns : List Int} (h : Km W B g ms) (k : Km W B2 g2 ns) : B ≠ g2 := by
  rintro rfl
  have h1 := h.cell
  have h2 : W.heap[B]? = some (.cells (iv ns).toArray 2 (0, 0)) := k.row
  rw [h1] at h2
  simp at h2
/-- Two marks, and a book of answers. -/
structure OW (w : World) (B g B2 g2 : Nat) (ms ns : List Int) (v : Value) (l : List An) (W : World) : Prop where
  k1 : Km W B g ms
  k2 : Km W B2 g2 ns
  gh : g ≠ g2
  bn : w.heap.size ≤ B ∧ w.heap.size ≤ g ∧ w.heap.size ≤ B2 ∧ w.heap.size ≤ g2
  bk : Bk w v l W
theorem OW.step {w : World} {B g B2 g2 : Nat} {ms ns : List Int} {v : Value} {l : List An} {W W' : World} (p : OW w B g B2 g2 ms ns v l W) (hf : Fr W W' (fun _ => False)) : OW w B g B2 g2 ms ns v l W' :=
  ⟨p.k1.fr hf (fun h => h) (fun h => h), p.k2.fr hf (fun h => h) (fun h => h), p.gh, p.bn, p.bk.step hf⟩
theorem OW.rise2 {w : World} {B g B2 g2 : Nat} {ms ns ns' : List Int} {v : Value} {l : List An} {W W' : World} (p : OW w B g B2 g2 ms ns v l W) (hk : Km W' B2 g2 ns') (hf : Fr W W' (fun b => b = g2)) : OW w B g B2 g2 ms ns' v l W' :=
  ⟨p.k1.fr hf (km_ne p.k1 p.k2) p.gh, hk, p.gh, p.bn, p.bk.other hf (fun k e => by
    subst e
    exact ⟨p.bn.2.2.2, _, _, p.k2.row, by decide, by decide⟩)⟩
theorem AnAt.rise {W W' : World} {a : An} {B2 g2 : Nat} {ns : List Int} (h : AnAt W a) (hk : Km W B2 g2 ns) (hf : Fr W W' (fun b => b = g2)) : AnAt W' a := h.fr hf (fun g hg e => by
  obtain ⟨cs, hc⟩ := h.kind hg
  have h2 : W.heap[g2]? = some (.cells (iv ns).toArray 2 (0, 0)) := hk.row
  rw [← e, hc] at h2
  simp at h2)
theorem OW.grow {w : World} {B g B2 g2 : Nat} {ms ns : List Int} {v v' : Value} {l l' : List An} {W W' : World} (p : OW w B g B2 g2 ms ns v l W) (hb : Bk w v' l' W') (hg : W.grownBy W' v.ownBlock) : OW w B g B2 g2 ms ns v' l' W' := by
  have hf : Fr W W' (fun b => v.ownBlock = some b) := (Fr.refl W _).grown hg (fun k _ e => e)
  have hS : ∀ {k : Nat} {cs : Array Value} {t : TypeId}, W.heap[k]? = some (.cells cs t (0, 0)) → t ≠ 29 → ¬ v.ownBlock = some k := fun hk ht e => own_ne p.bk.own hk ht e
  exact ⟨p.k1.fr hf (hS p.k1.cell (by decide)) (hS p.k1.row (by decide)), p.k2.fr hf (hS p.k2.cell (by decide)) (hS p.k2.row (by decide)), p.gh, p.bn, hb⟩
theorem six_one : ∀ u ∈ [Value.int .i64 9, .string ⟨#[]⟩, .int .i64 0, .int .i64 9, .string ⟨#[]⟩, .int .i64 0], u.oneCell' = true := by
  intro u hu
  simp at hu
  rcases hu with h | h | h | h | h | h <;> subst h <;> rfl
theorem ce_set {L : List Ce} {k : Nat} (hk : k < L.length) (c : Ce) : (L.set k c).getD k ce0 = c := by
  simp [List.getD, hk]
theorem noM_least : leastL [noM] = -4611686018427387904 := by decide
theorem replicate1 : List.replicate 1 noM = [noM] := rfl

set_option maxHeartbeats 8000000 in
set_option maxRecDepth 100000 in
theorem own_walk {w : World} {u1 u2 : Value} {vs : List Vw} {ts : List Int} (hvs : Vs w u1 vs) (hts : Nu w u2 ts) : Calls Try.prog 3 #[u1, u2] w fun e w' => e = .returned (.bool true) ∧ Fr w w' (fun _ => False) := by
  have HVS := hid hvs
  have HTS := hid hts
  obtain ⟨bo, cap1, rfl, hvl, _⟩ := id hvs
  obtain ⟨co, cap2, rfl, htl, _⟩ := id hts
  clear hvs hts
  obtain ⟨i0, hinfo, hz0, hz1, hz2⟩ := infoP Try.info_cells
  obtain ⟨j0, jinfo, jz0, jz1, jz2⟩ := infoP Try.info_cell
  have HN1 := hid (fun W : World => new_ok (n := 1) (by omega) (by omega) W)
  have HN2 := hid (fun W : World => new_ok (n := 2) (by omega) (by omega) W)
  go_enter Try.func3, Try.ntmps3
  go_wp2_with fail
  refine (HN1.out _).mono ?_
  rintro e w1 ⟨B, g, rfl, hK, hB, hg, hf⟩
  rw [replicate1] at hK
  have HK := hid hK
  have HF := hid hf
  have HBG := hid (And.intro hB hg)
  clear hK hf hB hg HN1
  go_wp2_with fail
  refine (HN2.out _).mono ?_
  rintro e w2 ⟨B2, g2, rfl, hK2, hB2, hg2, hf2⟩
  have HP : Hid (OW w B g B2 g2 [noM] (List.replicate 2 noM) (.slice none 0 0) [] w2) := by
    have hz := HF.out.size
    have h1 := HK.out.lt
    exact ⟨HK.out.fr hf2 (fun h => h) (fun h => h), hK2, by omega, ⟨HBG.out.1, HBG.out.2, by omega, by omega⟩, Bk.nil w (HF.out.trans hf2)⟩
  clear hK2 hB2 hg2 hf2 HK HF HBG HN2
  generalize List.replicate 2 noM = n0 at *
  go_wp2_with fail
  go_loopg [9, 10, 11, 12, 13, 14, 15, 16] (min ts.length 20) (fun n s9 s10 s11 s12 s13 s14 s15 s16 wx => ∃ (i : Nat) (ns : List Int) (l : List An), s10 = .int .i64 (i : Int) ∧ Hid (i + n = min ts.length 20) ∧ Hid (l.length = 2 * i) ∧ Hid (OW w B g B2 g2 [noM] ns s9 l wx))
  case atStart => exact ⟨0, n0, [], rfl, by show _ = _; omega, rfl, HP⟩
  case round =>
    obtain ⟨i, ns, l, rfl, HG, HLL, HP1⟩ := hrel
    clear HP
    obtain ⟨a9, c9, e9⟩ := own_nil_shape HP1.out.bk.own
    subst e9
    cases gk with
    | succ n =>
      have hi : i < ts.length := by have := HG.out; omega
      have t1 : (i : Int) < (ts.length : Int) := by omega
      have t2 : (i : Int) < 20 := by have := HG.out; omega
      obtain ⟨bt, ot, rfl, ct, _⟩ := (HTS.out.fr HP1.out.bk.fr).at hi
      have HCT : Hid (∀ W : World, Fr w W (fun _ => False) → W.cell? ⟨bt, ot + i, none⟩ = some (.int .i64 (ts.getD i 0)) ∧ bt < W.heap.size) := fun W hW => by
        obtain ⟨b', off', e, h1, h2⟩ := (HTS.out.fr hW).at hi
        simp only [Option.some.injEq, Addr.mk.injEq, and_true] at e
        obtain ⟨rfl, rfl⟩ := e
        exact ⟨h1, World.block_lt_of_cell? W _ h1⟩
      have hbt := (HCT.out _ HP1.out.bk.fr).2
      generalize ts.getD i 0 = tt at *
      have HOM := hid (fun (W : World) (ns' : List Int) (l' : List An) (v' : Value) (hW : OW w B g B2 g2 [noM] ns' v' l' W) => mopen_any hW.k1 (HVS.out.fr hW.bk.fr (fun _ _ _ _ _ h => h)) tt)
      have HLE := hid (fun (W : World) (ns' : List Int) (l' : List An) (v' : Value) (hW : OW w B g B2 g2 [noM] ns' v' l' W) => least_any hW.k1)
      rw [noM_least] at HOM HLE
      have HLEN : Hid ((opnL vs (-4611686018427387904) tt).length ≤ 256) := by
        show _ ≤ _
        unfold opnL
        by_cases h : chkN vs tt = 0
        · rw [if_pos h]
          obtain ⟨h4, hok, _⟩ := chk_ok h
          exact Nat.le_trans (List.length_filter_le _ _) (winL_len hok h4 tt)
        · rw [if_neg h]
          simp
      generalize opnL vs (-4611686018427387904) tt = OL at *
      generalize opnB vs (-4611686018427387904) tt = ob at *
      generalize chkN vs tt = oc at *
      have HI := hid hi
      clear hi
      go_wp2_with fail
      refine (HOM.out _ _ _ _ HP1.out).mono ?_
      rintro e w3 ⟨x1, rfl, hco1, hf3⟩
      obtain ⟨a, rfl, haL, haA, haN⟩ := hco1.an
      have HNA : Hid (∀ q, a.ad = some ⟨q, 0, none⟩ → w.heap.size ≤ q ∧ ∀ k, k < l.length → (l.getD k an0).ad ≠ some ⟨q, 0, none⟩) := fun q hq => by
        have h1 := (haN q hq).1
        have h2 := HP1.out.bk.fr.size
        exact ⟨by omega, fun k hk e => by have := (HP1.out.bk.each k hk).lt e; omega⟩
      have HP3 := hid (HP1.out.step hf3)
      have HA3 := hid haA
      have HAL := hid haL
      have HAB : Hid (∀ q, a.ad = some ⟨q, 0, none⟩ → q < w3.heap.size) := fun q hq => (haN q hq).2
      clear hco1 hf3 haA haL haN HP1 ct hbt
      unfold An.val
      go_wp2_with fail
      refine (rise_any HP3.out.k2 0 5).mono ?_
      rintro e w4 ⟨rfl, hk4, hf4⟩
      have HP4 := hid (HP3.out.rise2 hk4 hf4)
      have HA4 := hid (HA3.out.rise HP3.out.k2 hf4)
      have HZ4 := hid hf4.size
      clear hk4 hf4 HP3 HA3
      generalize riseS ns 0 5 = ns4 at *
      generalize riseR ns 0 5 = rr4 at *
      go_wp2_with fail
      refine (rise_any HP4.out.k2 1 1152921504606846976).mono ?_
      rintro e w5 ⟨rfl, hk5, hf5⟩
      have HP5 := hid (HP4.out.rise2 hk5 hf5)
      have HA5 := hid (HA4.out.rise HP4.out.k2 hf5)
      have HZ5 := hid (Nat.le_trans HZ4.out hf5.size)
      clear hk5 hf5 HP4 HA4 HZ4
      generalize riseS ns4 1 1152921504606846976 = ns5 at *
      generalize riseR ns4 1 1152921504606846976 = rr5 at *
      obtain ⟨ct, hbt⟩ := HCT.out _ HP5.out.bk.fr
      go_wp2_with fail
      refine (HOM.out _ _ _ _ HP5.out).mono ?_
      rintro e w6 ⟨x2, rfl, hco2, hf6⟩
      obtain ⟨b, rfl, hbL, hbA, hbN⟩ := hco2.an
      have HNB : Hid (∀ q, b.ad = some ⟨q, 0, none⟩ → w.heap.size ≤ q ∧ (∀ k, k < l.length → (l.getD k an0).ad ≠ some ⟨q, 0, none⟩) ∧ a.ad ≠ some ⟨q, 0, none⟩) := fun q hq => by
        have h1 := (hbN q hq).1
        have h2 := HP5.out.bk.fr.size
        exact ⟨by omega, fun k hk e => by have := (HP5.out.bk.each k hk).lt e; omega, fun e => by have := HAB.out q e; have := HZ5.out; omega⟩
      have HP6 := hid (HP5.out.step hf6)
      have HA6 := hid (HA5.out.fr hf6 (fun _ _ h => h))
      have HB6 := hid hbA
      have HBL := hid hbL
      clear hco2 hf6 hbA hbL hbN HP5 HA5 ct hbt HOM HCT HAB HZ5
      have HSM := hid (same_true (w := w6) (L := OL) (by have := HA6.out.cr (by rw [HAL.out]; have := HLEN.out; omega); rw [HAL.out] at this; exact this) (by have := HB6.out.cr (by rw [HBL.out]; have := HLEN.out; omega); rw [HBL.out] at this; exact this))
      unfold An.val at HSM ⊢
      obtain ⟨aad, aL⟩ := a
      obtain ⟨bad, bL⟩ := b
      have eA : aL = OL := HAL.out
      have eB : bL = OL := HBL.out
      subst eA
      clear HBL HAL
      have eB' : aL = bL := eB.symm
      subst eB'
      go_wp2_with fail
      refine HSM.out.mono ?_
      rintro e w7 ⟨rfl, hf7⟩
      have HP7 := hid (HP6.out.step hf7)
      have HA7 := hid (HA6.out.fr hf7 (fun _ _ h => h))
      have HB7 := hid (HB6.out.fr hf7 (fun _ _ h => h))
      clear hf7 HP6 HA6 HB6 HSM eB
      go_wp2_with fail
      refine (HLE.out _ _ _ _ HP7.out).mono ?_
      rintro e w8 ⟨rfl, hf8⟩
      have HP8 := hid (HP7.out.step hf8)
      have HA8 := hid (HA7.out.fr hf8 (fun _ _ h => h))
      have HB8 := hid (HB7.out.fr hf8 (fun _ _ h => h))
      clear hf8 HP7 HA7 HB7 HLE
      have hll : l.length ≤ 40 := by have := HLL.out; have := HG.out; omega
      have HMP : Hid ((l.map An.val).length = l.length) := by show _ = _; simp
      go_wp2_with (at_builtin; go_must (refine wpList_append_own_at _ rfl (.tmp 99) (.tmp 102) 28 rfl w.heap.size 29 i0 (.slice none 0 0) 1 24 Try.underlying28 hinfo hz0 hz1 hz2 rfl (by decide) _ _ _ rfl (HP8.out.bk.own.alloc _) ⟨w8.heap.size, 0, none⟩ 2 2 [.slice aad aL.length aL.length, .slice bad aL.length aL.length] rfl rfl ?c1 ?c2 ?c3 ?c4 ?c5 ?_))
      case c1 =>
        intro j u hj
        have hy := heap_last w8 (.cells #[.slice aad aL.length aL.length, .slice bad aL.length aL.length] 29) _ rfl
        rw [Addr.add_lit, Nat.zero_add, cell_of_row _ _ j _ _ (0, 0) hy]
        simpa using hj
      case c2 => intro x hx; simp at hx; rcases hx with rfl | rfl <;> rfl
      case c3 => unfold maxLen; omega
      case c4 => omega
      case c5 => have := HP8.out.bk.fr.size; simp; omega
      intro v9 w9 hown9 hg9 _ _
      have HP9 : Hid (OW w B g B2 g2 [noM] ns5 v9 (l ++ [⟨aad, aL⟩, ⟨bad, aL⟩]) w9) := by
        have hp := HP8.out.step (alloc_fr w8 (.cells #[.slice aad aL.length aL.length, .slice bad aL.length aL.length] 29) (fun _ => False))
        refine hp.grow (hp.bk.grow2 (HA8.out.fr (alloc_fr _ _ (fun _ => False)) (fun _ _ h => h)) (HB8.out.fr (alloc_fr _ _ (fun _ => False)) (fun _ _ h => h)) HNA.out HNB.out HLEN.out HLEN.out hown9 hg9) hg9
      obtain ⟨a9', c9', rfl⟩ := own_nil_shape hown9
      clear hown9 hg9 HP8 HA8 HB8 HNA HNB
      go_wp2_with fail
      go_roundg n
      case measure => omega
      case rel => exact ⟨i + 1, ns5, _, by go_num, by have := HG.out; show _ = _; omega, by have := HLL.out; show _ = _; rw [List.length_append]; simp; omega, HP9⟩
    | zero =>
      have HB := hid HP1.out.bk
      have hll : l.length ≤ 40 := by have := HLL.out; have := HG.out; omega
      have hc : ¬ (i : Int) < (ts.length : Int) ∨ ((i : Int) < (ts.length : Int) ∧ ¬ (i : Int) < 20) := by have := HG.out; omega
      clear HP1 HLL HG
      rcases hc with t1 | ⟨t1, t2⟩
      all_goals
        go_wp2_with fail
        generalize wr = W0 at *
        generalize hN : l.length = N at *
        have HN := hid hN
        clear hN
        go_loopg [17, 18, 19] N (fun n s17 s18 s19 wx => ∃ (i : Nat) (l : List An), s17 = .int .i64 (i : Int) ∧ Hid (i + n = N) ∧ Hid (l.length = N) ∧ Hid (∀ j k, j < i → k < (l.getD j an0).L.length → (l.getD j an0).L.getD k ce0 = ⟨j, k⟩) ∧ Hid (Bk w (.slice a9 N c9) l wx))
        case atStart => exact ⟨0, l, rfl, by show _ = _; omega, HN, (by intro j k hj; omega), HB⟩
        case round =>
          clear HB HN
          obtain ⟨i, l, rfl, HG, HN, HW, HB1⟩ := hrel
          cases gk with
          | succ n =>
            have hi : i < l.length := by have := HG.out; have := HN.out; omega
            have t3 : (i : Int) < (N : Int) := by have := HG.out; omega
            obtain ⟨gs, cs, hsv, csp, hgs⟩ := HB1.out.at hi
            rw [HN.out] at hsv
            cases hsv
            have HSP : Hid (∀ (W : World) (l' : List An), Bk w (.slice (some ⟨gs, 0, none⟩) N c9) l' W → l'.length = N → W.cell? ⟨gs, i, none⟩ = some (l'.getD i an0).val ∧ gs < W.heap.size) := fun W l' hb hl' => by
              obtain ⟨gs', cs', hsv', csp', hgs'⟩ := hb.at (k := i) (by omega)
              simp only [Value.slice.injEq, Option.some.injEq, Addr.mk.injEq, and_true] at hsv'
              rw [hsv'.1]
              exact ⟨csp', hgs'⟩
            have HAA := hid (HB1.out.each i hi)
            have hln := HB1.out.len i hi
            have hAD : (l.getD i an0).ad = none → (l.getD i an0).L.length = 0 := fun h => by
              rcases HAA.out with ⟨_, h2⟩ | ⟨g', _, h2, _⟩
              · rw [h2]; rfl
              · rw [h] at h2; cases h2
            obtain ⟨ad, had⟩ : ∃ ad, ad = (l.getD i an0).ad := ⟨_, rfl⟩
            obtain ⟨ln, hlne⟩ : ∃ ln, ln = (l.getD i an0).L.length := ⟨_, rfl⟩
            have hval : (l.getD i an0).val = .slice ad ln ln := by unfold An.val; rw [had, hlne]
            rw [hval] at csp
            rw [← had] at hAD
            rw [← hlne] at hln hAD
            have HAD := hid had
            have HLN := hid hlne
            have HNO := hid hAD
            have HI := hid hi
            clear had hlne hval hAD hi
            go_wp2_with (at_builtin; go_must (refine wpList_append_grows _ rfl (.tmp 113) (.tmp 116) 29 rfl 37 j0 _ 3 32 Try.underlying29 jinfo jz0 jz1 jz2 rfl (by decide) ad ln ln (cv (l.getD i an0).L) rfl ?d1 ?d2 ?d3 ⟨wr.heap.size, 0, none⟩ 2 2 [.int .i64 9, .string ⟨#[]⟩, .int .i64 0, .int .i64 9, .string ⟨#[]⟩, .int .i64 0] rfl rfl ?d4 ?d5 ?d6 ?d7 ?d8 ?_))
            case d1 => intro h; have := HNO.out h; omega
            case d2 => rw [cv_length, HLN.out]
            case d3 => intro b hb j u hj; exact (HAA.out.fr (alloc_fr _ _ (fun _ => False)) (fun _ _ h => h)).cells b (by rw [← HAD.out]; exact hb) j u hj
            case d4 =>
              intro j u hj
              have hy := heap_last wr (.cells #[.int .i64 9, .string ⟨#[]⟩, .int .i64 0, .int .i64 9, .string ⟨#[]⟩, .int .i64 0] 37) _ rfl
              rw [Addr.add_lit, Nat.zero_add, cell_of_row _ _ j _ _ (0, 0) hy]
              simpa using hj
            case d5 => exact six_one
            case d6 => omega
            case d7 => unfold maxLen; omega
            case d8 => omega
            intro v3 w3 hown3 hg3
            have hf3 : Fr wr w3 (fun _ => False) := ((Fr.refl wr _).alloc _).grown hg3 (fun k _ e => by cases e)
            have HB3 := hid (HB1.out.step hf3)
            obtain ⟨a3, c3, rfl⟩ := own_nil_shape hown3
            clear hown3 hg3 hf3 HB1 HAA csp hgs
            obtain ⟨csp, hgs⟩ := HSP.out _ _ HB3.out HN.out
            have hval : (l.getD i an0).val = .slice ad ln ln := by unfold An.val; rw [HAD.out, HLN.out]
            rw [hval] at csp
            clear hval
            go_wp2_with fail
            go_loopg [19] ln (fun p s19 wx => ∃ (k : Nat) (l' : List An), s19 = .int .i64 (k : Int) ∧ Hid (k + p = ln) ∧ Hid (l'.length = N) ∧ Hid (∀ j k, j < i → k < (l'.getD j an0).L.length → (l'.getD j an0).L.getD k ce0 = ⟨j, k⟩) ∧ Hid ((l'.getD i an0).ad = ad ∧ (l'.getD i an0).L.length = ln) ∧ Hid (∀ q, q < k → (l'.getD i an0).L.getD q ce0 = ⟨i, q⟩) ∧ Hid (Bk w (.slice (some ⟨gs, 0, none⟩) N c9) l' wx))
            case atStart => exact ⟨0, l, rfl, by show _ = _; omega, HN, HW, ⟨HAD.out.symm, HLN.out.symm⟩, (by intro q hq; omega), HB3⟩
            case round =>
              obtain ⟨k, l', rfl, HK, HN', HW', HE', HQ', HB4⟩ := hrel
              clear HB3 csp hgs
              obtain ⟨csp, hgs⟩ := HSP.out _ _ HB4.out HN'.out
              have hval : (l'.getD i an0).val = .slice ad ln ln := by unfold An.val; rw [HE'.out.1, HE'.out.2]
              rw [hval] at csp
              clear hval
              have hi' : i < l'.length := by have := HI.out; have := HN.out; have := HN'.out; omega
              cases gk with
              | zero =>
                have u1 : ¬ (k : Int) < (ln : Int) := by have := HK.out; omega
                have HW2 : Hid (∀ j k, j < i + 1 → k < (l'.getD j an0).L.length → (l'.getD j an0).L.getD k ce0 = ⟨j, k⟩) := fun j q hj hq => by
                  rcases Nat.lt_or_ge j i with h | h
                  · exact HW'.out j q h hq
                  · have e : j = i := by omega
                    subst e
                    exact HQ'.out q (by have := HE'.out.2; have := HK.out; omega)
                clear hi'
                go_wp2_with fail
                go_roundg n
                case measure => omega
                case rel => exact ⟨i + 1, l', by go_num, by have := HG.out; show _ = _; omega, HN', HW2, HB4⟩
              | succ p =>
                have hk : k < ln := by have := HK.out; omega
                have u1 : (k : Int) < (ln : Int) := by omega
                have hk2 : k < (l'.getD i an0).L.length := by rw [HE'.out.2]; exact hk
                obtain ⟨gg, hgg, ⟨d0, d1, d2⟩, hgl, hfz⟩ := (HB4.out.each i hi').get hk2
                have e5 : ad = some ⟨gg, 0, none⟩ := by rw [← HE'.out.1, hgg]
                have HWR := hid (HB4.out.write hi' hk2 hgg ⟨i, (k : Int)⟩)
                have f0 := hfz (k * 3)
                have f1 := hfz (k * 3 + 1)
                have f2 := hfz (k * 3 + 2)
                have HR1 : Hid ((l'.set i ⟨(l'.getD i an0).ad, (l'.getD i an0).L.set k ⟨i, (k : Int)⟩⟩).length = N) := by show _ = _; rw [List.length_set]; exact HN'.out
                have HR2 : Hid (∀ j q, j < i → q < ((l'.set i ⟨(l'.getD i an0).ad, (l'.getD i an0).L.set k ⟨i, (k : Int)⟩⟩).getD j an0).L.length → ((l'.set i ⟨(l'.getD i an0).ad, (l'.getD i an0).L.set k ⟨i, (k : Int)⟩⟩).getD j an0).L.getD q ce0 = ⟨j, q⟩) := fun j q hj hq => by
                  rw [getD_set (by omega), if_neg (by omega)] at hq ⊢
                  exact HW'.out j q hj hq
                have HR3 : Hid (((l'.set i ⟨(l'.getD i an0).ad, (l'.getD i an0).L.set k ⟨i, (k : Int)⟩⟩).getD i an0).ad = ad ∧ ((l'.set i ⟨(l'.getD i an0).ad, (l'.getD i an0).L.set k ⟨i, (k : Int)⟩⟩).getD i an0).L.length = ln) := by
                  show _ ∧ _
                  rw [getD_set hi', if_pos rfl]
                  exact ⟨HE'.out.1, by simp only [List.length_set]; exact HE'.out.2⟩
                have HR4 : Hid (∀ q, q < k + 1 → ((l'.set i ⟨(l'.getD i an0).ad, (l'.getD i an0).L.set k ⟨i, (k : Int)⟩⟩).getD i an0).L.getD q ce0 = ⟨i, q⟩) := fun q hq => by
                  rw [getD_set hi', if_pos rfl]
                  by_cases e : k = q
                  · subst e
                    exact ce_set hk2 _
                  · have := HQ'.out q (by omega)
                    simp only [List.getD] at this ⊢
                    rw [List.getElem?_set_ne e]
                    exact this
                generalize l'.set i ⟨(l'.getD i an0).ad, (l'.getD i an0).L.set k ⟨i, (k : Int)⟩⟩ = l2 at *
                generalize ((l'.getD i an0).L.getD k ce0).v = cv0 at *
                generalize ((l'.getD i an0).L.getD k ce0).s = cs0 at *
                have HI' := hid hi'
                have HAD' := HAD
                subst e5
                clear hk2 hgg hfz hk hi' HAD HNO HAD'
                go_wp2_with fail
                go_roundg p
                case measure => omega
                case rel => exact ⟨k + 1, l2, by go_num, by have := HK.out; show _ = _; omega, HR1, HR2, HR3, HR4, HWR⟩
          | zero =>
            have t3 : ¬ (i : Int) < (N : Int) := by have := HG.out; omega
            have HW2 : Hid (∀ j k, j < N → k < (l.getD j an0).L.length → (l.getD j an0).L.getD k ce0 = ⟨j, k⟩) := fun j k hj hk => HW.out j k (by have := HG.out; omega) hk
            clear HW HG
            go_wp2_with fail
            generalize wr = W1 at *
            go_loopg [20, 21] N (fun n s20 s21 wx => ∃ (i : Nat), s20 = .int .i64 (i : Int) ∧ Hid (i + n = N) ∧ Hid (Bk w (.slice a9 N c9) l wx))
            case atStart => exact ⟨0, rfl, by show _ = _; omega, HB1⟩
            case round =>
              obtain ⟨i, rfl, HG, HB2⟩ := hrel
              clear HB1
              cases gk with
              | zero =>
                have t4 : ¬ (i : Int) < (N : Int) := by have := HG.out; omega
                go_wp2_with fail
                refine (head_any _).mono ?_
                rintro e w6 ⟨rfl, hf6⟩
                have HS6 := hid (HB2.out.fr.trans hf6)
                clear hf6
                go_wp2_with fail
                go_ret
                exact ⟨rfl, HS6.out⟩
              | succ n =>
                have hi : i < l.length := by have := HG.out; have := HN.out; omega
                have t4 : (i : Int) < (N : Int) := by have := HG.out; omega
                obtain ⟨gs, cs, hsv, csp, hgs⟩ := HB2.out.at hi
                rw [HN.out] at hsv
                cases hsv
                have HSP : Hid (∀ (W : World), Bk w (.slice (some ⟨gs, 0, none⟩) N c9) l W → W.cell? ⟨gs, i, none⟩ = some (l.getD i an0).val ∧ gs < W.heap.size ∧ AnAt W (l.getD i an0)) := fun W hb => by
                  obtain ⟨gs', cs', hsv', csp', hgs'⟩ := hb.at (k := i) hi
                  simp only [Value.slice.injEq, Option.some.injEq, Addr.mk.injEq, and_true] at hsv'
                  rw [hsv'.1]
                  exact ⟨csp', hgs', hb.each i hi⟩
                have HWI := hid (fun k hk => HW2.out i k (by have := HN.out; omega) hk)
                have hln := HB2.out.len i hi
                generalize l.getD i an0 = aa at *
                obtain ⟨ad, aL⟩ := aa
                unfold An.val at HSP
                have HI := hid hi
                clear hi csp hgs
                go_wp2_with fail
                go_loopg [21] aL.length (fun p s21 wx => ∃ (k : Nat), s21 = .int .i64 (k : Int) ∧ Hid (k + p = aL.length) ∧ Hid (Bk w (.slice (some ⟨gs, 0, none⟩) N c9) l wx))
                case atStart => exact ⟨0, rfl, by show _ = _; omega, HB2⟩
                case round =>
                  obtain ⟨k, rfl, HK, HB3⟩ := hrel
                  clear HB2
                  obtain ⟨csp, hgs, han⟩ := HSP.out _ HB3.out
                  have csp' : wr.cell? ⟨gs, i, none⟩ = some (.slice ad aL.length aL.length) := csp
                  clear csp
                  cases gk with
                  | zero =>
                    have u1 : ¬ (k : Int) < (aL.length : Int) := by have := HK.out; omega
                    clear han
                    go_wp2_with fail
                    go_roundg n
                    case measure => omega
                    case rel => exact ⟨i + 1, by go_num, by have := HG.out; show _ = _; omega, HB3⟩
                  | succ p =>
                    have hk : k < aL.length := by have := HK.out; omega
                    have u1 : (k : Int) < (aL.length : Int) := by omega
                    obtain ⟨gg, hgg, ⟨d0, d1, d2⟩, hgl, _⟩ := han.get hk
                    have e6 : aL.getD k ce0 = ⟨i, k⟩ := HWI.out k hk
                    have d0' : wr.cell? ⟨gg, k * 3, none⟩ = some (.int .i64 (i : Int)) := by rw [d0]; show some (Value.int .i64 ((aL.getD k ce0).v : Int)) = _; rw [e6]
                    have d2' : wr.cell? ⟨gg, k * 3 + 2, none⟩ = some (.int .i64 (k : Int)) := by rw [d2]; show some (Value.int .i64 (aL.getD k ce0).s) = _; rw [e6]
                    have e7 : ad = some ⟨gg, 0, none⟩ := hgg
                    subst e7
                    clear d0 d2 e6 han hk hgg
                    go_wp2_with fail
                    go_roundg p
                    case measure => omega
                    case rel => exact ⟨k + 1, by go_num, by have := HK.out; show _ = _; omega, HB3⟩
end Go.Proofs.Ytfmhdpenodmblab
