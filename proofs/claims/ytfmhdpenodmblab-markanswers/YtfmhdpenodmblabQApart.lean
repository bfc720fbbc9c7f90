/- The law's apart: the walk. -/
import Derived.Test.YtfmhdpenodmblabQBook2
namespace Go.Proofs.Ytfmhdpenodmblab
open Go.RowKit

theorem made_any (z : Value) (n : Nat) : (madeCells #[z] n).toList = List.replicate n z := by
  apply List.ext_getElem
  · simp [madeCells]
  · intro i h1 h2
    simp [madeCells, Nat.mod_one]
theorem ce_set {L : List Ce} {k : Nat} (hk : k < L.length) (c : Ce) : (L.set k c).getD k ce0 = c := by
  simp [List.getD, hk]
theorem moe_of {W : World} {base i n : Nat} {v : Value} {L : List Ce} {l : List An} (h : W.ownsRow base 37 3 v (n + 2) (cv L ++ [.int .i64 (100 + (i : Int)), .string ⟨#[]⟩, .int .i64 (-1), .int .i64 (100 + (i : Int)), .string ⟨#[]⟩, .int .i64 (-2)])) (hL : L.length = n) (hn : ∀ j g, j < l.length → (l.getD j an0).ad = some ⟨g, 0, none⟩ → g < base) : MoE W i n v l := by
  rcases h.2 with ⟨_, h0⟩ | ⟨g, cap, cur, rfl, hb, hg, hc, hm, hcs, htake⟩
  · omega
  · refine ⟨g, cap, L ++ [⟨100 + i, -1⟩, ⟨100 + i, -2⟩], cur.toList.drop ((n + 2) * 3), rfl, ?_, by rw [List.length_append, hL]; rfl, ?_, ?_, fun j hj e => by have := hn j g hj e; omega⟩
    · unfold RowC
      rw [hg]
      congr 2
      apply Array.ext'
      have e : cv (L ++ [⟨100 + i, -1⟩, ⟨100 + i, -2⟩]) = cv L ++ [.int .i64 (100 + (i : Int)), .string ⟨#[]⟩, .int .i64 (-1), .int .i64 (100 + (i : Int)), .string ⟨#[]⟩, .int .i64 (-2)] := by
        rw [cv_append]
        rfl
      rw [List.toList_toArray, e, ← htake, List.take_append_drop]
    · subst hL
      simp [List.getD]
    · subst hL
      simp [List.getD]
theorem six_any (a b : Value) (ha : a.oneCell' = true) (hb : b.oneCell' = true) (c : Value) (hc : c.oneCell' = true) : ∀ u ∈ [a, .string ⟨#[]⟩, b, a, .string ⟨#[]⟩, c], u.oneCell' = true := by
  intro u hu
  simp at hu
  rcases hu with h | h | h | h | h | h <;> subst h <;> first | exact ha | exact hb | exact hc | rfl

set_option maxHeartbeats 8000000 in
set_option maxRecDepth 100000 in
theorem apart_any {w w0 : World} {vA vW : Value} {l0 : List An} {ws : List Wn} {N : Nat} (hb : Bk w vA l0 w0) (hw : Wb w vW ws w0) (hl : l0.length = N) (hlw : ws.length = N) (hN : N ≤ 100) (hsm : ∀ k, k < N → (ws.getD k wn0).L = (l0.getD k an0).L)
    (hcr : ∀ j k g, j < N → k < N → (l0.getD j an0).ad = some ⟨g, 0, none⟩ → (ws.getD k wn0).ad ≠ some ⟨g, 0, none⟩) :
    Calls Try.prog 13 #[vA, vW] w0 fun e w' => e = .returned (.bool true) ∧ Fr w0 w' (fun k => ∃ j, j < N ∧ (l0.getD j an0).ad = some ⟨k, 0, none⟩) := by
  have HB := hid hb
  have HW := hid hw
  have HSM := hid hsm
  have HCR := hid hcr
  obtain ⟨aA, cA, eA⟩ := own_nil_shape hb.own
  obtain ⟨aW, cW, eW⟩ := own_nil_shape hw.own
  rw [hl] at eA
  rw [hlw] at eW
  subst eA eW
  have HL := hid (And.intro hl (And.intro hl hlw))
  have HA0 : Hid (∀ j g, j < l0.length → (l0.getD j an0).ad = some ⟨g, 0, none⟩ → g < w0.heap.size) := fun j g hj hg => (hb.each j hj).lt hg
  clear hb hw hsm hcr hl hlw
  obtain ⟨j0, jinfo, jz0, jz1, jz2⟩ := infoP Try.info_cell
  have HMK := hid (fun W : World => run_make_row' (P := Try.prog) 28 29 (.slice none 0 0) 24 Try.underlying28 Try.info_cells rfl .i64 .i64 N (by omega) (by omega) W)
  have hmk := HMK.out w0
  go_enter Try.func13, Try.ntmps13
  go_wp2_with fail
  have HP : Hid (AP w w0 (.slice aA N cA) (.slice aW N cW) l0 l0 ws w0.heap.size N (List.replicate N (.slice none 0 0)) 0 (w0.alloc (.cells (madeCells #[Value.slice none 0 0] N) 29))) := by
    have hf := alloc_fr w0 (.cells (madeCells #[Value.slice none 0 0] N) 29) (fun _ => False)
    refine ⟨HB.out.step hf, HW.out.step hf, ⟨?_, by simp, fun i hi => by omega⟩, HL.out, fun j hj => ⟨rfl, rfl⟩, HCR.out, fun e => ?_, fun e => ?_, ⟨Nat.le_refl _, HB.out.fr.size⟩, hf.mono (fun _ _ h => h.elim)⟩
    · rw [heap_last _ _ _ rfl]
      congr 2
      apply Array.ext'
      rw [made_any]
    · have := own_lt HB.out.own e; omega
    · have := own_lt HW.out.own e; omega
  clear hmk HMK HB HW
  generalize (w0.alloc (.cells (madeCells #[Value.slice none 0 0] N) 29)) = w1 at *
  generalize hgm : w0.heap.size = gm at *
  have HGM := hid hgm
  clear hgm
  generalize List.replicate N (Value.slice none 0 0) = us0 at *
  go_loopg [6] N (fun n s6 wx => ∃ (i : Nat) (us : List Value), s6 = .int .i64 (i : Int) ∧ Hid (i + n = N) ∧ Hid (AP w w0 (.slice aA N cA) (.slice aW N cW) l0 l0 ws gm N us i wx))
  case atStart => exact ⟨0, us0, rfl, by show _ = _; omega, HP⟩
  case round =>
    obtain ⟨i, us, rfl, HG, HP1⟩ := hrel
    clear HP
    cases gk with
    | succ n =>
      have hi : i < N := by have := HG.out; omega
      have hil : i < l0.length := by have := HL.out.1; omega
      have t1 : (i : Int) < (N : Int) := by omega
      obtain ⟨gs, cs, hsv, csp, hgs⟩ := HP1.out.bk.at hil
      rw [HL.out.1] at hsv
      cases hsv
      have HAA := hid (HP1.out.bk.each i hil)
      have hln := HP1.out.bk.len i hil
      have hAD : (l0.getD i an0).ad = none → (l0.getD i an0).L.length = 0 := fun h => by
        rcases HAA.out with ⟨_, h2⟩ | ⟨g', _, h2, _⟩
        · rw [h2]; rfl
        · rw [h] at h2; cases h2
      obtain ⟨ad, had⟩ : ∃ ad, ad = (l0.getD i an0).ad := ⟨_, rfl⟩
      obtain ⟨ln, hlne⟩ : ∃ ln, ln = (l0.getD i an0).L.length := ⟨_, rfl⟩
      have hval : (l0.getD i an0).val = .slice ad ln ln := by unfold An.val; rw [had, hlne]
      rw [hval] at csp
      rw [← had] at hAD
      rw [← hlne] at hln hAD
      have HAD := hid had
      have HLN := hid hlne
      have HNO := hid hAD
      have HI := hid hi
      have cm := HP1.out.mo.cell hi
      have fm : wr.frozen? ⟨gm, i, none⟩ = false := by
        have h' := HP1.out.mo.row
        simp [World.frozen?, h']
      have hgml := lt_of_block HP1.out.mo.row
      generalize us.getD i (.slice none 0 0) = um at *
      clear had hlne hval hAD hi hil
      go_wp2_with (at_builtin; go_must (refine wpList_append_grows _ rfl (.tmp 33) (.tmp 40) 29 rfl 37 j0 _ 3 32 Try.underlying29 jinfo jz0 jz1 jz2 rfl (by decide) ad ln ln (cv (l0.getD i an0).L) rfl ?d1 ?d2 ?d3 ⟨wr.heap.size, 0, none⟩ 2 2 [.int .i64 (100 + (i : Int)), .string ⟨#[]⟩, .int .i64 (-1), .int .i64 (100 + (i : Int)), .string ⟨#[]⟩, .int .i64 (-2)] rfl rfl ?d4 ?d5 ?d6 ?d7 ?d8 ?_))
      case d1 => intro h; have := HNO.out h; omega
      case d2 => rw [cv_length, HLN.out]
      case d3 => intro b hb j u hj; exact (HAA.out.fr (alloc_fr _ _ (fun _ => False)) (fun _ _ h => h)).cells b (by rw [← HAD.out]; exact hb) j u hj
      case d4 =>
        intro j u hj
        have hy := heap_last wr (.cells #[.int .i64 (100 + (i : Int)), .string ⟨#[]⟩, .int .i64 (-1), .int .i64 (100 + (i : Int)), .string ⟨#[]⟩, .int .i64 (-2)] 37) _ rfl
        rw [Addr.add_lit, Nat.zero_add, cell_of_row _ _ j _ _ (0, 0) hy]
        simpa using hj
      case d5 => exact six_any _ _ rfl rfl _ rfl
      case d6 => omega
      case d7 => unfold maxLen; omega
      case d8 => omega
      intro v3 w3 hown3 hg3
      have hf3 : Fr wr w3 (fun _ => False) := ((Fr.refl wr _).alloc _).grown hg3 (fun k _ e => by cases e)
      have HP3 := hid (HP1.out.step hf3)
      have HME : Hid (MoE w3 i (l0.getD i an0).L.length v3 l0) := by
        refine moe_of (base := wr.heap.size + 1) ?_ rfl (fun j g hj hg => ?_)
        · rw [← HLN.out]
          have := hown3
          simpa using this
        · have h1 := HA0.out j g hj hg
          have h2 := HP1.out.fr.size
          have := HGM.out
          omega
      obtain ⟨a3, c3, rfl⟩ := own_nil_shape hown3
      have HP4 := hid (HP3.out.more HI.out HME.out)
      have cm3 : w3.cell? ⟨gm, i, none⟩ = some um := by rw [(fr_rules hf3).1 gm i hgml]; exact cm
      have fm3 : w3.frozen? ⟨gm, i, none⟩ = false := by rw [(fr_rules hf3).2 gm i hgml]; exact fm
      have hgml3 : gm < w3.heap.size := by have := hf3.size; omega
      clear hown3 hg3 hf3 HP1 HAA csp hgs cm fm hgml HME HP3
      go_wp2_with fail
      go_roundg n
      case measure => omega
      case rel => exact ⟨i + 1, _, by go_num, by have := HG.out; show _ = _; omega, HP4⟩
    | zero =>
      have t1 : ¬ (i : Int) < (N : Int) := by have := HG.out; omega
      have eN : i = N := by have := HG.out; omega
      rw [eN] at HP1
      clear eN HG
      go_wp2_with fail
      generalize wr = W1 at *
      have HSA : Hid (∀ (W : World) (l : List An) (k : Nat), AP w w0 (.slice aA N cA) (.slice aW N cW) l0 l ws gm N us N W → k < N → ∃ ga, aA = some ⟨ga, 0, none⟩ ∧ W.cell? ⟨ga, k, none⟩ = some (.slice (l0.getD k an0).ad (l0.getD k an0).L.length (l0.getD k an0).L.length) ∧ ga < W.heap.size) := fun W l k hp hk => by
        obtain ⟨gs, cs, hsv, csp, hgs⟩ := hp.bk.at (k := k) (by have := hp.ll; omega)
        simp only [Value.slice.injEq] at hsv
        refine ⟨gs, hsv.1, ?_, hgs⟩
        rw [csp]
        unfold An.val
        rw [(hp.same k hk).1, (hp.same k hk).2]
      have HSW : Hid (∀ (W : World) (l : List An) (k : Nat), AP w w0 (.slice aA N cA) (.slice aW N cW) l0 l ws gm N us N W → k < N → ∃ gw, aW = some ⟨gw, 0, none⟩ ∧ W.cell? ⟨gw, k, none⟩ = some (.slice (ws.getD k wn0).ad (l0.getD k an0).L.length (ws.getD k wn0).c) ∧ gw < W.heap.size) := fun W l k hp hk => by
        obtain ⟨gs, cs, hsv, csp, hgs⟩ := hp.wb.at (k := k) (by have := hp.ll; omega)
        simp only [Value.slice.injEq] at hsv
        refine ⟨gs, hsv.1, ?_, hgs⟩
        rw [csp]
        unfold Wn.val
        rw [HSM.out k hk]
      go_loopg [7, 8] N (fun n s7 s8 wx => ∃ (i : Nat), s7 = .int .i64 (i : Int) ∧ Hid (i + n = N) ∧ Hid (AP w w0 (.slice aA N cA) (.slice aW N cW) l0 l0 ws gm N us N wx))
      case atStart => exact ⟨0, rfl, by show _ = _; omega, HP1⟩
      case round =>
        obtain ⟨i, rfl, HG, HP2⟩ := hrel
        clear HP1
        cases gk with
        | succ n =>
          have hi : i < N := by have := HG.out; omega
          have t2 : (i : Int) < (N : Int) := by omega
          obtain ⟨ga, ea, ca, hga⟩ := HSA.out _ _ i HP2.out hi
          obtain ⟨gw, ew, cw, hgw⟩ := HSW.out _ _ i HP2.out hi
          have HLA : Hid (∀ W, AP w w0 (.slice aA N cA) (.slice aW N cW) l0 l0 ws gm N us N W → AnAt W (l0.getD i an0) ∧ WnAt W (ws.getD i wn0)) := fun W hp => ⟨hp.bk.each i (by have := hp.ll; omega), hp.wb.each i (by have := hp.ll; omega)⟩
          have HSI0 := hid (HSM.out i hi)
          have hln := HP2.out.bk.len i (by have := HL.out.1; omega)
          subst ea ew
          have HSI : Hid (∀ (W : World), AP w w0 (.slice (some ⟨ga, 0, none⟩) N cA) (.slice (some ⟨gw, 0, none⟩) N cW) l0 l0 ws gm N us N W → (W.cell? ⟨ga, i, none⟩ = some (.slice (l0.getD i an0).ad (l0.getD i an0).L.length (l0.getD i an0).L.length) ∧ ga < W.heap.size) ∧ (W.cell? ⟨gw, i, none⟩ = some (.slice (ws.getD i wn0).ad (l0.getD i an0).L.length (ws.getD i wn0).c) ∧ gw < W.heap.size)) := fun W hp => by
            obtain ⟨ga', ea', h1, h2⟩ := HSA.out _ _ i hp hi
            obtain ⟨gw', ew', h3, h4⟩ := HSW.out _ _ i hp hi
            simp only [Option.some.injEq, Addr.mk.injEq, and_true] at ea' ew'
            subst ea' ew'
            exact ⟨⟨h1, h2⟩, ⟨h3, h4⟩⟩
          have HI := hid hi
          clear hi
          generalize l0.getD i an0 = aa at *
          generalize ws.getD i wn0 = bb at *
          obtain ⟨ad, aL⟩ := aa
          obtain ⟨adw, cw', bL⟩ := bb
          have eb : bL = aL := HSI0.out
          subst eb
          have ca' : wr.cell? ⟨ga, i, none⟩ = some (.slice ad bL.length bL.length) := ca
          have cw'' : wr.cell? ⟨gw, i, none⟩ = some (.slice adw bL.length cw') := cw
          have hln' : bL.length ≤ 256 := hln
          clear ca cw hln HSI0
          go_upto_region 11 with (fail)
          go_quiet (fail)
          have HP3 := hid (HP2.out.step ((Fr.refl _ _).drewN nq))
          clear HP2 ca' cw'' hga hgw
          go_wp2_with fail
          go_loopg [8] bL.length (fun p s8 wx => ∃ (k : Nat), s8 = .int .i64 (k : Int) ∧ Hid (k + p = bL.length) ∧ Hid (AP w w0 (.slice (some ⟨ga, 0, none⟩) N cA) (.slice (some ⟨gw, 0, none⟩) N cW) l0 l0 ws gm N us N wx))
          case atStart => exact ⟨0, rfl, by show _ = _; omega, HP3⟩
          case round =>
            obtain ⟨k, rfl, HK, HP4⟩ := hrel
            clear HP3
            obtain ⟨⟨ca, hga⟩, ⟨cw, hgw⟩⟩ := HSI.out _ HP4.out
            have ca' : wr.cell? ⟨ga, i, none⟩ = some (.slice ad bL.length bL.length) := ca
            have cw'' : wr.cell? ⟨gw, i, none⟩ = some (.slice adw bL.length cw') := cw
            clear ca cw
            cases gk with
            | zero =>
              have u1 : ¬ (k : Int) < (bL.length : Int) := by have := HK.out; omega
              go_wp2_with fail
              go_roundg n
              case measure => omega
              case rel => exact ⟨i + 1, by go_num, by have := HG.out; show _ = _; omega, HP4⟩
            | succ p =>
              have hk : k < bL.length := by have := HK.out; omega
              have u1 : (k : Int) < (bL.length : Int) := by omega
              obtain ⟨hA, hW⟩ := HLA.out _ HP4.out
              obtain ⟨gg, hgg, ⟨d0, d1, d2⟩, hgl, _⟩ := hA.get hk
              obtain ⟨hh, hhh, ⟨f0, f1, f2⟩, hhl⟩ := hW.get hk
              have e5 : ad = some ⟨gg, 0, none⟩ := hgg
              have e6 : adw = some ⟨hh, 0, none⟩ := hhh
              have d0' : wr.cell? ⟨gg, k * 3, none⟩ = some (.int .i64 ((bL.getD k ce0).v : Int)) := d0
              have d2' : wr.cell? ⟨gg, k * 3 + 2, none⟩ = some (.int .i64 (bL.getD k ce0).s) := d2
              have f0' : wr.cell? ⟨hh, k * 3, none⟩ = some (.int .i64 ((bL.getD k ce0).v : Int)) := f0
              have f2' : wr.cell? ⟨hh, k * 3 + 2, none⟩ = some (.int .i64 (bL.getD k ce0).s) := f2
              subst e5 e6
              clear hA hW hgg hhh d0 d2 f0 f2 hk
              generalize ((bL.getD k ce0).v : Int) = cv0 at *
              generalize (bL.getD k ce0).s = cs0 at *
              go_upto_region 16 with (fail)
              go_quiet (fail)
              go_wp2_with fail
              go_roundg p
              case measure => omega
              case rel => exact ⟨k + 1, by go_num, by have := HK.out; show _ = _; omega, HP4.out.step ((Fr.refl _ _).drewN _)⟩
        | zero =>
          have t2 : ¬ (i : Int) < (N : Int) := by have := HG.out; omega
          clear HG
          go_wp2_with fail
          generalize wr = W2 at *
          go_loopg [9, 10] N (fun n s9 s10 wx => ∃ (i : Nat) (l : List An), s9 = .int .i64 (i : Int) ∧ Hid (i + n = N) ∧ Hid (∀ j k, j < i → k < (l.getD j an0).L.length → (l.getD j an0).L.getD k ce0 = ⟨100 + j, k⟩) ∧ Hid (AP w w0 (.slice aA N cA) (.slice aW N cW) l0 l ws gm N us N wx))
          case atStart => exact ⟨0, l0, rfl, by show _ = _; omega, (by intro j k hj; omega), HP2⟩
          case round =>
            obtain ⟨i, l, rfl, HG, HWR, HP3⟩ := hrel
            clear HP2
            cases gk with
            | succ n =>
              have hi : i < N := by have := HG.out; omega
              have t3 : (i : Int) < (N : Int) := by omega
              obtain ⟨ga, ea, _, _⟩ := HSA.out _ _ i HP3.out hi
              subst ea
              have hln := HP3.out.bk.len i (by have := HP3.out.ll.1; omega)
              rw [(HP3.out.same i hi).2] at hln
              have HSI : Hid (∀ (W : World) (l : List An), AP w w0 (.slice (some ⟨ga, 0, none⟩) N cA) (.slice aW N cW) l0 l ws gm N us N W → W.cell? ⟨ga, i, none⟩ = some (.slice (l0.getD i an0).ad (l0.getD i an0).L.length (l0.getD i an0).L.length) ∧ ga < W.heap.size) := fun W l hp => by
                obtain ⟨ga', ea', h1, h2⟩ := HSA.out _ _ i hp hi
                simp only [Option.some.injEq, Addr.mk.injEq, and_true] at ea'
                subst ea'
                exact ⟨h1, h2⟩
              obtain ⟨ad, had⟩ : ∃ ad, ad = (l0.getD i an0).ad := ⟨_, rfl⟩
              obtain ⟨ln, hlne⟩ : ∃ ln, ln = (l0.getD i an0).L.length := ⟨_, rfl⟩
              rw [← had, ← hlne] at HSI
              rw [← hlne] at hln
              have HAD := hid had
              have HLN := hid hlne
              have HI := hid hi
              clear had hlne hi
              go_wp2_with fail
              go_loopg [10] ln (fun p s10 wx => ∃ (k : Nat) (l' : List An), s10 = .int .i64 (k : Int) ∧ Hid (k + p = ln) ∧ Hid (∀ j k, j < i → k < (l'.getD j an0).L.length → (l'.getD j an0).L.getD k ce0 = ⟨100 + j, k⟩) ∧ Hid (∀ q, q < k → (l'.getD i an0).L.getD q ce0 = ⟨100 + i, q⟩) ∧ Hid (AP w w0 (.slice (some ⟨ga, 0, none⟩) N cA) (.slice aW N cW) l0 l' ws gm N us N wx))
              case atStart => exact ⟨0, l, rfl, by show _ = _; omega, HWR, (by intro q hq; omega), HP3⟩
              case round =>
                obtain ⟨k, l', rfl, HK, HW', HQ', HP4⟩ := hrel
                clear HP3
                obtain ⟨csp, hgs⟩ := HSI.out _ _ HP4.out
                have hsame := HP4.out.same i HI.out
                cases gk with
                | zero =>
                  have u1 : ¬ (k : Int) < (ln : Int) := by have := HK.out; omega
                  have HW2 : Hid (∀ j k, j < i + 1 → k < (l'.getD j an0).L.length → (l'.getD j an0).L.getD k ce0 = ⟨100 + j, k⟩) := fun j q hj hq => by
                    rcases Nat.lt_or_ge j i with h | h
                    · exact HW'.out j q h hq
                    · have e : j = i := by omega
                      subst e
                      refine HQ'.out q ?_
                      have h1 := hsame.2
                      have h2 := HLN.out
                      have h3 := HK.out
                      omega
                  clear hsame
                  go_wp2_with fail
                  go_roundg n
                  case measure => omega
                  case rel => exact ⟨i + 1, l', by go_num, by have := HG.out; show _ = _; omega, HW2, HP4⟩
                | succ p =>
                  have hk : k < ln := by have := HK.out; omega
                  have u1 : (k : Int) < (ln : Int) := by omega
                  have hil : i < l'.length := by have := HP4.out.ll.1; have := HI.out; omega
                  have hk2 : k < (l'.getD i an0).L.length := by rw [hsame.2, ← HLN.out]; exact hk
                  obtain ⟨gg, hgg, ⟨d0, d1, d2⟩, hgl, hfz⟩ := (HP4.out.bk.each i hil).get hk2
                  have e5 : ad = some ⟨gg, 0, none⟩ := by rw [HAD.out, ← hsame.1, hgg]
                  have HWR5 := hid (HP4.out.write HI.out hk2 hgg ⟨100 + i, (k : Int)⟩)
                  have ev : (((100 + i : Nat)) : Int) = 100 + (i : Int) := by omega
                  have f0 := hfz (k * 3)
                  have f1 := hfz (k * 3 + 1)
                  have f2 := hfz (k * 3 + 2)
                  have HR2 : Hid (∀ j q, j < i → q < ((l'.set i ⟨(l'.getD i an0).ad, (l'.getD i an0).L.set k ⟨100 + i, (k : Int)⟩⟩).getD j an0).L.length → ((l'.set i ⟨(l'.getD i an0).ad, (l'.getD i an0).L.set k ⟨100 + i, (k : Int)⟩⟩).getD j an0).L.getD q ce0 = ⟨100 + j, q⟩) := fun j q hj hq => by
                    rw [getD_set (by omega), if_neg (by omega)] at hq ⊢
                    exact HW'.out j q hj hq
                  have HR4 : Hid (∀ q, q < k + 1 → ((l'.set i ⟨(l'.getD i an0).ad, (l'.getD i an0).L.set k ⟨100 + i, (k : Int)⟩⟩).getD i an0).L.getD q ce0 = ⟨100 + i, q⟩) := fun q hq => by
                    rw [getD_set hil, if_pos rfl]
                    by_cases e : k = q
                    · subst e
                      exact ce_set hk2 _
                    · have := HQ'.out q (by omega)
                      simp only [List.getD] at this ⊢
                      rw [List.getElem?_set_ne e]
                      exact this
                  generalize l'.set i ⟨(l'.getD i an0).ad, (l'.getD i an0).L.set k ⟨100 + i, (k : Int)⟩⟩ = l2 at *
                  generalize ((l'.getD i an0).L.getD k ce0).v = cv0 at *
                  generalize ((l'.getD i an0).L.getD k ce0).s = cs0 at *
                  have HWR6 : Hid (AP w w0 (.slice (some ⟨ga, 0, none⟩) N cA) (.slice aW N cW) l0 l2 ws gm N us N (((wr.setCell ⟨gg, k * 3, none⟩ (.int .i64 (100 + (i : Int)))).setCell ⟨gg, k * 3 + 1, none⟩ (.string ⟨#[]⟩)).setCell ⟨gg, k * 3 + 2, none⟩ (.int .i64 (k : Int)))) := by
                    have := HWR5.out
                    rw [ev] at this
                    exact this
                  have HIL := hid hil
                  subst e5
                  clear hk2 hgg hfz hk hsame HAD HWR5 ev hil
                  go_wp2_with fail
                  go_roundg p
                  case measure => omega
                  case rel => exact ⟨k + 1, l2, by go_num, by have := HK.out; show _ = _; omega, HR2, HR4, HWR6⟩
            | zero =>
              have t3 : ¬ (i : Int) < (N : Int) := by have := HG.out; omega
              have HW2 : Hid (∀ j k, j < N → k < (l.getD j an0).L.length → (l.getD j an0).L.getD k ce0 = ⟨100 + j, k⟩) := fun j k hj hk => HWR.out j k (by have := HG.out; omega) hk
              clear HWR HG
              go_wp2_with fail
              generalize wr = W3 at *
              go_loopg [11, 12, 13] N (fun n s11 s12 s13 wx => ∃ (i : Nat), s11 = .int .i64 (i : Int) ∧ Hid (i + n = N) ∧ Hid (AP w w0 (.slice aA N cA) (.slice aW N cW) l0 l ws gm N us N wx))
              case atStart => exact ⟨0, rfl, by show _ = _; omega, HP3⟩
              case round =>
                obtain ⟨i, rfl, HG, HP4⟩ := hrel
                clear HP3
                cases gk with
                | zero =>
                  have t4 : ¬ (i : Int) < (N : Int) := by have := HG.out; omega
                  go_wp2_with fail
                  go_ret
                  exact ⟨rfl, HP4.out.fr⟩
                | succ n =>
                  have hi : i < N := by have := HG.out; omega
                  have t4 : (i : Int) < (N : Int) := by omega
                  obtain ⟨ga, ea, ca, hga⟩ := HSA.out _ _ i HP4.out hi
                  subst ea
                  have HSI : Hid (∀ (W : World), AP w w0 (.slice (some ⟨ga, 0, none⟩) N cA) (.slice aW N cW) l0 l ws gm N us N W → W.cell? ⟨ga, i, none⟩ = some (.slice (l0.getD i an0).ad (l0.getD i an0).L.length (l0.getD i an0).L.length) ∧ ga < W.heap.size) := fun W hp => by
                    obtain ⟨ga', ea', h1, h2⟩ := HSA.out _ _ i hp hi
                    simp only [Option.some.injEq, Addr.mk.injEq, and_true] at ea'
                    subst ea'
                    exact ⟨h1, h2⟩
                  have hil : i < l.length := by have := HP4.out.ll.1; omega
                  have hln := HP4.out.bk.len i hil
                  have hsame := HP4.out.same i hi
                  rw [hsame.2] at hln
                  have HLA : Hid (∀ W, AP w w0 (.slice (some ⟨ga, 0, none⟩) N cA) (.slice aW N cW) l0 l ws gm N us N W → AnAt W (l.getD i an0)) := fun W hp => hp.bk.each i hil
                  have HWI := hid (fun k hk => HW2.out i k hi hk)
                  have cm := HP4.out.mo.cell hi
                  have hgml := lt_of_block HP4.out.mo.row
                  obtain ⟨gM, cM, M, rM, eM, hrM, hlM, hM1, hM2, _⟩ := HP4.out.mo.each i hi
                  rw [eM] at cm
                  obtain ⟨m0, m1, m2⟩ := hrM.get (i := (l0.getD i an0).L.length) (by omega)
                  obtain ⟨n0, n1, n2⟩ := hrM.get (i := (l0.getD i an0).L.length + 1) (by omega)
                  rw [hM1] at m0 m2
                  rw [hM2] at n0 n2
                  have ev : (((100 + i : Nat)) : Int) = 100 + (i : Int) := by omega
                  simp only [ev] at m0 n0
                  have hgM := hrM.lt
                  have HS := hid hsame
                  obtain ⟨ad, had⟩ : ∃ ad, ad = (l0.getD i an0).ad := ⟨_, rfl⟩
                  obtain ⟨ln, hlne⟩ : ∃ ln, ln = (l0.getD i an0).L.length := ⟨_, rfl⟩
                  rw [← had, ← hlne] at HSI ca
                  rw [← hlne] at hln cm m0 m1 m2 n0 n1 n2
                  have HAD := hid had
                  have HLN := hid hlne
                  have HI := hid hi
                  clear had hlne hi hil hsame eM hrM hlM hM1 hM2 ev
                  go_upto_region 31 with (fail)
                  clear cm m0 m1 m2 n0 n1 n2 hgM hgml ca hga
                  go_wp2_with fail
                  go_loopg [13] ln (fun p s13 wx => ∃ (k : Nat), s13 = .int .i64 (k : Int) ∧ Hid (k + p = ln) ∧ Hid (AP w w0 (.slice (some ⟨ga, 0, none⟩) N cA) (.slice aW N cW) l0 l ws gm N us N wx))
                  case atStart => exact ⟨0, rfl, by show _ = _; omega, HP4⟩
                  case round =>
                    obtain ⟨k, rfl, HK, HP5⟩ := hrel
                    clear HP4
                    obtain ⟨ca, hga⟩ := HSI.out _ HP5.out
                    cases gk with
                    | zero =>
                      have u1 : ¬ (k : Int) < (ln : Int) := by have := HK.out; omega
                      go_wp2_with fail
                      go_roundg n
                      case measure => omega
                      case rel => exact ⟨i + 1, by go_num, by have := HG.out; show _ = _; omega, HP5⟩
                    | succ p =>
                      have hk : k < ln := by have := HK.out; omega
                      have u1 : (k : Int) < (ln : Int) := by omega
                      have hk2 : k < (l.getD i an0).L.length := by rw [HS.out.2, ← HLN.out]; exact hk
                      obtain ⟨gg, hgg, ⟨d0, d1, d2⟩, hgl, _⟩ := (HLA.out _ HP5.out).get hk2
                      rw [HWI.out k hk2] at d0 d2
                      have e5 : ad = some ⟨gg, 0, none⟩ := by rw [HAD.out, ← HS.out.1, hgg]
                      have ev : (((100 + i : Nat)) : Int) = 100 + (i : Int) := by omega
                      have d0' : wr.cell? ⟨gg, k * 3, none⟩ = some (.int .i64 (100 + (i : Int))) := by rw [d0]; show some (Value.int .i64 ((100 + i : Nat) : Int)) = _; rw [ev]
                      have d2' : wr.cell? ⟨gg, k * 3 + 2, none⟩ = some (.int .i64 (k : Int)) := d2
                      subst e5
                      clear d0 d2 hk2 hgg hk ev HAD
                      go_wp2_with fail
                      go_roundg p
                      case measure => omega
                      case rel => exact ⟨k + 1, by go_num, by have := HK.out; show _ = _; omega, HP5⟩
end Go.Proofs.Ytfmhdpenodmblab
