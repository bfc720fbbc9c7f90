/- The document's Windows, Open: walks. -/
import Derived.Test.YtfmhdpenodmblaaQPRef
import Derived.Test.YtfmhdpenodmblaaQSame
namespace Go.Proofs.Ytfmhdpenodmblaa
open Go.RowKit

/-- Is there one? -/
def someB (L : List Ce) : Bool := decide (0 < L.length)
theorem opL_append (vs : List Vw) (m : Int) (a b : List Ce) : opL vs m (a ++ b) = opL vs m a ++ opL vs m b := by simp [opL]
theorem opL_one (vs : List Vw) (m : Int) (c : Ce) : opL vs m [c] = if shutC vs m c then [] else [c] := by
  unfold opL
  rcases hb : shutC vs m c with _ | _
  · rw [List.filter_cons_of_pos (by simp [hb])]
    rfl
  · rw [List.filter_cons_of_neg (by simp [hb])]
    rfl
theorem someB_snoc (A : List Ce) (c : Ce) : someB (A ++ [c]) = true := by
  unfold someB
  exact decide_eq_true (by simp)
/-- Starts that can be read at a slice. -/
def RdS (w : World) (v : Value) (S : List Int) : Prop := ∃ ao cap, v = .slice ao S.length cap ∧ (S ≠ [] → ∃ g rest, ao = some ⟨g, 0, none⟩ ∧ RowV w g (iv S ++ rest))
theorem RdS.of {w : World} {base n : Nat} {v : Value} {S : List Int} (h : w.ownsRow base 2 1 v n (iv S)) : RdS w v S := by
  have hn : S.length = n := by have := h.1; simpa [iv] using this
  rcases h.2 with ⟨rfl, h0⟩ | ⟨g, cap, cur, rfl, _⟩
  · have : S = [] := List.eq_nil_of_length_eq_zero (by omega)
    subst this
    exact ⟨none, 0, rfl, fun h => absurd rfl h⟩
  · obtain ⟨rest, hr, _⟩ := own_room h
    exact ⟨_, cap, by rw [hn], fun _ => ⟨g, rest, rfl, hr⟩⟩
theorem RdS.fr {w w' : World} {v : Value} {S : List Int} (h : RdS w v S) (hf : Fr w w' (fun _ => False)) : RdS w' v S := by
  obtain ⟨ao, cap, rfl, hc⟩ := h
  refine ⟨ao, cap, rfl, fun hne => ?_⟩
  obtain ⟨g, rest, rfl, hr⟩ := hc hne
  exact ⟨g, rest, rfl, hr.fr hf (fun h => h)⟩
theorem RdS.grown {w w' : World} {v u : Value} {S : List Int} {base n : Nat} {xs : List Value} (h : RdS w v S) (hu : w.ownsRow base 76 3 u n xs) (hg : w.grownBy w' u.ownBlock) : RdS w' v S := by
  obtain ⟨ao, cap, rfl, hc⟩ := h
  refine ⟨ao, cap, rfl, fun hne => ?_⟩
  obtain ⟨g, rest, rfl, hr⟩ := hc hne
  refine ⟨g, rest, rfl, ?_⟩
  unfold RowV
  rw [hg.block g hr.lt (fun e => own_ne hu hr (by decide) e.symm)]
  exact hr
theorem RdS.at {w : World} {ao : Option Addr} {n cap : Nat} {S : List Int} (h : RdS w (.slice ao n cap) S) {i : Nat} (hi : i < S.length) : ∃ g, ao = some ⟨g, 0, none⟩ ∧ w.cell? ⟨g, i, none⟩ = some (.int .i64 (S.getD i 0)) := by
  obtain ⟨ao', cap', e, hc⟩ := h
  obtain ⟨g, rest, e2, hr⟩ := hc (by intro e; subst e; simp at hi)
  simp only [Value.slice.injEq] at e
  refine ⟨g, by rw [e.1, e2], ?_⟩
  rw [hr.cell, List.getElem?_append_left (by rw [iv_length]; exact hi), iv_get _ _ hi]

set_option maxHeartbeats 4000000 in
set_option maxRecDepth 100000 in
theorem rwindows_any {w : World} {v : Value} {vs : List Vw} (h : Vs w v vs) {t : Int} (hc : chkN vs t = 0) (m : Int) : Calls Try.prog 37 #[.int .i64 t, .int .i64 m, v] w fun e w' => ∃ u, e = .returned (.tuple #[u, .bool (decide ((opL vs m (winL vs t)).length = 0) && decide (0 < (winL vs t).length))]) ∧ Cw w w' u (opL vs m (winL vs t)) := by
  have HV := hid h
  obtain ⟨ao, cap, rfl, hl, _⟩ := id h
  clear h
  obtain ⟨h4, hok, hti⟩ := chk_ok hc
  have HOK := hid hok
  have HTI := hid hti
  have HNR := hid (fun c hc => winL_near hok hti (c := c) hc)
  clear hok hti hc
  obtain ⟨WL, hWL⟩ : ∃ WL, WL = winL vs t := ⟨_, rfl⟩
  rw [← hWL]
  have HWL := hid hWL
  obtain ⟨OL, hOL⟩ : ∃ OL, OL = opL vs m WL := ⟨_, rfl⟩
  rw [← hOL]
  have HOL := hid hOL
  clear hWL hOL
  obtain ⟨RB, hRB⟩ : ∃ RB, RB = (decide (OL.length = 0) && decide (0 < WL.length)) := ⟨_, rfl⟩
  rw [← hRB]
  have HRB : Hid (RB = (decide (OL.length = 0) && someB WL)) := hRB
  clear hRB
  go_enter Try.func37, Try.ntmps37
  go_wp2_with fail
  go_loopg [8, 9, 10, 11, 12, 13] vs.length (fun n s8 s9 s10 s11 s12 s13 wx => ∃ i : Nat, s10 = .int .i64 (i : Int) ∧ Hid (i + n = vs.length) ∧ s9 = .bool (someB (winN vs t i)) ∧ Hid (Cw w wx s8 (opL vs m (winN vs t i))))
  case atStart => exact ⟨0, rfl, by show _ = _; omega, rfl, ⟨⟨rfl, Or.inl ⟨rfl, rfl⟩⟩, Fr.refl _ _⟩⟩
  case round =>
    obtain ⟨i, rfl, HG, rfl, HC⟩ := hrel
    cases gk with
    | zero =>
      have t1 : ¬ (i : Int) < (vs.length : Int) := by have := HG.out; omega
      have e : winN vs t i = WL := by rw [HWL.out, show i = vs.length by have := HG.out; omega]; rfl
      rw [e] at HC ⊢
      rw [← HOL.out] at HC
      clear e HOL HWL
      obtain ⟨a5, c5, rfl⟩ := own_nil_shape HC.out.1
      generalize someB WL = sb at *
      rcases sb with _ | _
      · rw [Bool.and_false] at HRB
        go_wp2_with fail
        go_ret2
        exact ⟨_, by rw [HRB.out]; rfl, HC.out⟩
      · rw [Bool.and_true] at HRB
        rcases Nat.eq_zero_or_pos OL.length with hz | hz
        · obtain rfl : OL = [] := List.eq_nil_of_length_eq_zero hz
          clear hz
          go_wp2_with fail
          go_ret2
          exact ⟨_, by rw [HRB.out]; rfl, HC.out⟩
        · have hz1 : ¬ OL.length = 0 := by omega
          have hz2 : ¬ (OL.length : Int) = 0 := by omega
          rw [decide_eq_false hz1] at HRB
          generalize hln : OL.length = ln at *
          have hz3 : ((ln : Int) == 0) = false := by simp; omega
          have HLN := hid hln
          clear hln
          go_wp2_with fail
          go_ret2
          exact ⟨_, by rw [HRB.out]; rfl, by first | exact HC.out | (have := HC.out; rw [HLN.out] at this; exact this)⟩
    | succ n =>
      have hi : i < vs.length := by have := HG.out; omega
      have t1 : (i : Int) < (vs.length : Int) := by omega
      obtain ⟨b, off, rfl, c0, c1, c2⟩ := (HV.out.fr HC.out.2 (fun _ _ _ _ _ h => h)).at hi
      have hbl : b < wr.heap.size := World.block_lt_of_cell? wr _ c0
      have HVC : Hid (∀ W : World, Fr w W (fun _ => False) → (W.cell? ⟨b, off + i * 3, none⟩ = some (.int .i64 (vs.getD i vw0).s) ∧ W.cell? ⟨b, off + i * 3 + 1, none⟩ = some (.int .i64 (vs.getD i vw0).d) ∧ W.cell? ⟨b, off + i * 3 + 2, none⟩ = some (.int .i64 (vs.getD i vw0).l)) ∧ b < W.heap.size) := fun W hW => by
        obtain ⟨b', off', e, h1, h2, h3⟩ := (HV.out.fr hW (fun _ _ _ _ _ h => h)).at hi
        simp only [Option.some.injEq, Addr.mk.injEq, and_true] at e
        obtain ⟨rfl, rfl⟩ := e
        exact ⟨⟨h1, h2, h3⟩, World.block_lt_of_cell? W _ h1⟩
      have ho := okVs_at HOK.out hi
      have HST := hid (fun W : World => refStarts_ok ho HTI.out W)
      have HN64 := hid (numP_le (t := t) ho.sd ho.d1)
      have HL0 := hid (winN_len HOK.out t i (by omega))
      have HSUC := hid (winN_succ vs t i)
      have HFT : Hid (∀ x ∈ startsL (vs.getD i vw0).s (vs.getD i vw0).d t, fits (x + (vs.getD i vw0).s) ∧ fits (x + (vs.getD i vw0).s + (vs.getD i vw0).l)) := fun x hx => by
        have hmem : (⟨i, x⟩ : Ce) ∈ winL vs t := by
          simp only [winL, winN, List.mem_flatMap, List.mem_range, List.mem_map]
          exact ⟨i, hi, x, hx, rfl⟩
        exact (HNR.out _ hmem).2.2
      have HSH : Hid (∀ x : Int, shutC vs m ⟨i, x⟩ = decide (x + (vs.getD i vw0).s + (vs.getD i vw0).l ≤ m)) := fun x => rfl
      have hi4 : i ≤ 4 := by omega
      clear ho hi
      generalize (vs.getD i vw0).s = vs0 at *
      generalize (vs.getD i vw0).d = vd0 at *
      generalize (vs.getD i vw0).l = vl0 at *
      generalize winN vs t i = L0 at *
      obtain ⟨a5, c5, rfl⟩ := own_nil_shape HC.out.1
      have hol : (opL vs m L0).length ≤ L0.length := List.length_filter_le _ _
      go_wp2_with fail
      refine (HST.out _).mono ?_
      rintro e w1 ⟨vS, rfl, hown, hf⟩
      have HR := hid (RdS.of hown)
      obtain ⟨aS, cS, rfl⟩ := own_nil_shape hown
      have HC1 := hid (HC.out.fr hf)
      clear hown hf HC HST c0 c1 c2 hbl
      have hsl : (startsL vs0 vd0 t).length ≤ 64 := by rw [startsL_length]; exact HN64.out
      go_wp2_with fail
      obtain ⟨S0, hS0⟩ : ∃ S0, S0 = startsL vs0 vd0 t := ⟨_, rfl⟩
      rw [← hS0] at HR hsl HSUC HFT ⊢
      clear hS0
      go_loopg [8, 9, 13] S0.length (fun n s8 s9 s13 wx => ∃ j : Nat, s13 = .int .i64 (j : Int) ∧ Hid (j + n = S0.length) ∧ s9 = .bool (someB (L0 ++ (S0.take j).map fun x => ⟨i, x⟩)) ∧ Hid (RdS wx (.slice aS S0.length cS) S0) ∧ Hid (Cw w wx s8 (opL vs m (L0 ++ (S0.take j).map fun x => ⟨i, x⟩))))
      case atStart => exact ⟨0, rfl, by show _ = _; omega, by simp, HR, hid (by simpa using HC1.out)⟩
      case round =>
        obtain ⟨j, rfl, HJ, rfl, HR2, HC2⟩ := hrel
        clear HR HC1
        cases gk with
        | zero =>
          have u1 : ¬ (j : Int) < (S0.length : Int) := by have := HJ.out; omega
          have HE : Hid (L0 ++ (S0.take j).map (fun x => (⟨i, x⟩ : Ce)) = winN vs t (i + 1)) := by
            show _ = _
            rw [HSUC.out, List.take_of_length_le (by have := HJ.out; omega)]
          rw [HE.out] at HC2 ⊢
          go_wp2_with fail
          go_roundg n
          case measure => omega
          case rel => exact ⟨i + 1, by go_num, by have := HG.out; show _ = _; omega, rfl, HC2⟩
        | succ q =>
          have hj : j < S0.length := by have := HJ.out; omega
          have u1 : (j : Int) < (S0.length : Int) := by omega
          obtain ⟨gS, rfl, c1⟩ := HR2.out.at hj
          have HRC : Hid (∀ W : World, RdS W (.slice (some ⟨gS, 0, none⟩) S0.length cS) S0 → W.cell? ⟨gS, j, none⟩ = some (.int .i64 (S0.getD j 0)) ∧ gS < W.heap.size) := fun W hW => by
            obtain ⟨g', e, h1⟩ := hW.at hj
            simp only [Option.some.injEq, Addr.mk.injEq, and_true] at e
            subst e
            exact ⟨h1, World.block_lt_of_cell? W _ h1⟩
          have hmem : S0.getD j 0 ∈ S0 := by
            have : S0.getD j 0 = S0[j] := by simp [List.getD, hj]
            rw [this]
            exact List.getElem_mem hj
          obtain ⟨f1, f2⟩ := HFT.out _ hmem
          have HCLO := hid (fun W : World => refClosed_any vs0 vd0 vl0 (S0.getD j 0) m f1 f2 W)
          rw [← HSH.out (S0.getD j 0)] at HCLO
          have HTK : Hid (L0 ++ (S0.take (j + 1)).map (fun x => (⟨i, x⟩ : Ce)) = (L0 ++ (S0.take j).map (fun x => (⟨i, x⟩ : Ce))) ++ [⟨i, S0.getD j 0⟩]) := by
            show _ = _
            rw [List.take_add_one, List.map_append, ← List.append_assoc]
            simp [List.getD, hj]
          have hll : (opL vs m (L0 ++ (S0.take j).map (fun x => (⟨i, x⟩ : Ce)))).length ≤ 1000 := by
            have h1 : (opL vs m (L0 ++ (S0.take j).map (fun x => (⟨i, x⟩ : Ce)))).length ≤ (L0 ++ (S0.take j).map (fun x => (⟨i, x⟩ : Ce))).length := List.length_filter_le _ _
            have := HL0.out
            rw [List.length_append, List.length_map, List.length_take] at h1
            omega
          have HOA : Hid (opL vs m (L0 ++ (S0.take (j + 1)).map (fun x => (⟨i, x⟩ : Ce))) = opL vs m (L0 ++ (S0.take j).map (fun x => (⟨i, x⟩ : Ce))) ++ (if shutC vs m ⟨i, S0.getD j 0⟩ then [] else [⟨i, S0.getD j 0⟩])) := by
            show _ = _
            rw [HTK.out, opL_append, opL_one]
          have HSB : Hid (someB (L0 ++ (S0.take (j + 1)).map (fun x => (⟨i, x⟩ : Ce))) = true) := by
            show _ = _
            rw [HTK.out]
            exact someB_snoc _ _
          clear hmem f1 f2 HTK
          generalize someB (L0 ++ (S0.take j).map (fun x => (⟨i, x⟩ : Ce))) = sb0 at *
          generalize shutC vs m ⟨i, S0.getD j 0⟩ = sh at *
          generalize S0.getD j 0 = x0 at *
          generalize opL vs m (L0 ++ (S0.take j).map (fun x => (⟨i, x⟩ : Ce))) = L1 at *
          obtain ⟨a6, c6, rfl⟩ := own_nil_shape HC2.out.1
          have HJL := hid hj
          have HLL := hid hll
          clear hj hll c1
          go_upto_region 11 with (fail)
          have HS := hid (Fr.refl wr (fun _ => False))
          go_region_held3 (fun W' => Hid (Fr wr W' (fun _ => False)) ∧ (W'.cell? ⟨gS, j, none⟩ = some (.int .i64 x0) ∧ gS < W'.heap.size) ∧ (W'.cell? ⟨b, off + i * 3, none⟩ = some (.int .i64 vs0) ∧ W'.cell? ⟨b, off + i * 3 + 1, none⟩ = some (.int .i64 vd0) ∧ W'.cell? ⟨b, off + i * 3 + 2, none⟩ = some (.int .i64 vl0)) ∧ b < W'.heap.size)
            ((refine (fun hh => ⟨hh, HRC.out _ (HR2.out.fr hh), (HVC.out _ (HC2.out.2.trans hh)).1, (HVC.out _ (HC2.out.2.trans hh)).2⟩ : Fr wr _ (fun _ => False) → _) ?_; first | exact HS.out | exact HS.out.drew | exact HS.out.drew.drew))
            ((go_at_call 42; refine (HCLO.out _).mono ?_; rintro e w9 ⟨rfl, hf9⟩; have HS9 := hid ((by first | exact HS.out | exact HS.out.drew : Fr wr _ (fun _ => False)).trans hf9); clear hf9 HS; have HS := HS9; clear HS9))
          have HC3 := hid (HC2.out.fr HS.out)
          have HR3 := hid (HR2.out.fr HS.out)
          clear HC2 HR2 HS HCLO HVC
          obtain ⟨c1, hgl⟩ := HRC.out _ HR3.out
          rcases sh with _ | _
          · have e5 := HOA.out
            rw [if_neg (by simp)] at e5
            have HOA2 := hid e5
            clear e5 HOA
            go_wp2_with (at_builtin; go_must (refine wpl_cw (wb := w) rfl (.tmp 46) (.tmp 53) rfl _ L1 rfl w9.heap.size ⟨i, x0⟩ rfl ?c1 ?c2 ?c3 ?_))
            case c1 => have := HLL.out; omega
            case c2 => exact HC3.out.fr (alloc_fr _ _ _)
            case c3 =>
              have h := heap_last w9 (.cells #[.int .i64 (i : Int), .string ⟨#[]⟩, .int .i64 x0] 76) _ rfl
              first
              | exact h
              | (rw [Array.getElem?_eq_getElem (by simp)] at h; exact Option.some.inj h)
            intro v2 w4 hE4 hg4
            have HE4 := hid hE4
            have HR4 := hid ((HR3.out.fr (alloc_fr _ _ _)).grown (HC3.out.fr (alloc_fr _ (.cells #[.int .i64 (i : Int), .string ⟨#[]⟩, .int .i64 x0] 76) _)).1 hg4)
            clear hE4 hg4
            go_wp2_with fail
            go_roundg q
            case measure => omega
            case rel => exact ⟨j + 1, by go_num, by have := HJ.out; show _ = _; omega, by rw [HSB.out], HR4, by rw [HOA2.out]; exact HE4⟩
          · have e5 := HOA.out
            rw [if_pos rfl, List.append_nil] at e5
            have HOA2 := hid e5
            clear e5 HOA
            go_wp2_with fail
            go_roundg q
            case measure => omega
            case rel => exact ⟨j + 1, by go_num, by have := HJ.out; show _ = _; omega, by rw [HSB.out], HR3, by rw [HOA2.out]; exact HC3⟩
end Go.Proofs.Ytfmhdpenodmblaa
