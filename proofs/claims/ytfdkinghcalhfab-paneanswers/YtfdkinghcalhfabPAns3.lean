/- The law PaneAnswers: its walk. -/
import Derived.Test.YtfdkinghcalhfabPAns2
namespace Go.Proofs.Ytfdkinghcalhfab
open Go.RowKit

theorem four_new (w : World) (x y z t : Value) (e : TypeId) : ∀ (j : Nat) (u : Value), [x, y, z, t][j]? = some u → (w.alloc (.cells #[x, y, z, t] e)).cell? ((⟨w.heap.size, 0, none⟩ : Addr).add j) = some u := by
  intro j u hj
  have h := heap_last w (.cells #[x, y, z, t] e) _ rfl
  rw [Addr.add_lit, cell_of_row _ _ _ _ _ _ h, Nat.zero_add]
  match j, hj with
  | 0, hj => exact hj
  | 1, hj => exact hj
  | 2, hj => exact hj
  | 3, hj => exact hj
theorem getD_four {α : Type} (l : List α) (a b c f e : α) (P : α → Prop) (hl : ∀ i, P (l.getD i e)) (ha : P a) (hb : P b) (hc : P c) (hf : P f) (he : P e) : ∀ i, P ((l ++ [a] ++ [b] ++ [c] ++ [f]).getD i e) := by
  intro i
  rw [getD_snoc]
  split
  · exact getD_three l a b c e P hl ha hb hc he i
  · split <;> assumption
theorem getD_four0 {α : Type} (l : List α) (a b c f e : α) : (l ++ [a] ++ [b] ++ [c] ++ [f]).getD l.length e = a ∧ (l ++ [a] ++ [b] ++ [c] ++ [f]).getD (l.length + 1) e = b ∧ (l ++ [a] ++ [b] ++ [c] ++ [f]).getD (l.length + 2) e = c ∧ (l ++ [a] ++ [b] ++ [c] ++ [f]).getD (l.length + 3) e = f ∧ ∀ i, i < l.length → (l ++ [a] ++ [b] ++ [c] ++ [f]).getD i e = l.getD i e := by
  obtain ⟨h1, h2, h3⟩ := getD_three0 l a b c e
  refine ⟨?_, ?_, ?_, ?_, fun i hi => ?_⟩
  · rw [getD_snoc, if_pos (by simp)]; exact h1
  · rw [getD_snoc, if_pos (by simp)]; exact h2
  · rw [getD_snoc, if_pos (by simp)]; exact h3
  · rw [getD_snoc, if_neg (by simp), if_pos (by simp)]
  · rw [getD_snoc, if_pos (by simp; omega), getD_snoc, if_pos (by simp; omega), getD_snoc, if_pos (by simp; omega), getD_snoc, if_pos hi]
theorem OB.add4 {w wx wy : World} {s d l : Int} {vK vW vK' vW' : Value} {VK VW : List Value} {xs : List (List Int)} {n : Nat} (h : OB w wx s d l vK vW VK VW xs xs n) {a b c f a' b' c' f' : Value} {x y : List Int}
    (ho : O1 w wy s d l vK' vW' (VK ++ [a, b, c, f]) (VW ++ [a', b', c', f']) (VK ++ [a] ++ [b] ++ [c] ++ [f]) (xs ++ [x] ++ [x] ++ [y] ++ [y]) (VW ++ [a'] ++ [b'] ++ [c'] ++ [f']) (xs ++ [x] ++ [x] ++ [y] ++ [y]))
    (hx : x.length ≤ 64) (hy : y.length ≤ 64) (fx : ∀ q ∈ x, fits q) (fy : ∀ q ∈ y, fits q) : OB w wy s d l vK' vW' (VK ++ [a] ++ [b] ++ [c] ++ [f]) (VW ++ [a'] ++ [b'] ++ [c'] ++ [f']) (xs ++ [x] ++ [x] ++ [y] ++ [y]) (xs ++ [x] ++ [x] ++ [y] ++ [y]) (n + 4) := by
  refine ⟨?_, by simp [h.len], by simp [h.len], getD_four xs x x y y [] (fun x => x.length ≤ 64) h.short hx hx hy hy (by simp), getD_four xs x x y y [] (fun x => ∀ y ∈ x, fits y) h.fit fx fx fy fy (by simp)⟩
  have e1 : VK ++ [a, b, c, f] = VK ++ [a] ++ [b] ++ [c] ++ [f] := by simp
  have e2 : VW ++ [a', b', c', f'] = VW ++ [a'] ++ [b'] ++ [c'] ++ [f'] := by simp
  rw [e1, e2] at ho
  exact ho
/-- What was asked: the rows of each time. -/
def Asked (s d l : Int) (ts : List Int) (xs : List (List Int)) (i : Nat) : Prop := ∀ q, q < i → xs.getD (4 * q) [] = startsL s d ((ts.getD q 0).tmod 576460752303423488) ∧ xs.getD (4 * q + 2) [] = openL s l ((ts.getD q 0).tmod 576460752303423488) (startsL s d ((ts.getD q 0).tmod 576460752303423488))
theorem Asked.next {s d l : Int} {ts : List Int} {xs : List (List Int)} {i : Nat} (h : Asked s d l ts xs i) (hl : xs.length = 4 * i) {x y : List Int} (hx : x = startsL s d ((ts.getD i 0).tmod 576460752303423488)) (hy : y = openL s l ((ts.getD i 0).tmod 576460752303423488) x) : Asked s d l ts (xs ++ [x] ++ [x] ++ [y] ++ [y]) (i + 1) := by
  intro q hq
  obtain ⟨e1, e2, e3, e4, e5⟩ := getD_four0 xs x x y y []
  rcases Nat.lt_or_ge q i with h1 | h1
  · rw [e5 _ (by omega), e5 _ (by omega)]
    exact h q h1
  · obtain rfl : q = i := by omega
    rw [← hl, e1, e3, ← hx]
    exact ⟨rfl, hy⟩
theorem own_four {w wx : World} {s d l : Int} {vK vW : Value} {VS WS VK VW : List Value} {ks xs : List (List Int)} {a b c f : Value} {x y z t : List Int} (h : O1 w wx s d l vK vW VS WS (VK ++ [a] ++ [b] ++ [c] ++ [f]) (ks ++ [x] ++ [y] ++ [z] ++ [t]) VW xs) (hl : VK.length = ks.length) :
    wx.ownsRow (w.heap.size + 1) 2 1 a x.length (iv x) ∧ wx.ownsRow (w.heap.size + 1) 2 1 c z.length (iv z) := by
  obtain ⟨e1, e2, e3, _⟩ := getD_four0 VK a b c f nilV
  obtain ⟨f1, f2, f3, _⟩ := getD_four0 ks x y z t []
  have h1 := h.bk.k.own ks.length (by simp)
  have h3 := h.bk.k.own (ks.length + 2) (by simp)
  rw [← hl, e1, hl, f1] at h1
  rw [← hl, e3, hl, f3] at h3
  exact ⟨h1, h3⟩

set_option maxRecDepth 100000 in
set_option maxHeartbeats 8000000 in
theorem paneAnswers_walk (s d l : Int) (v : Value) (ts : List Int) (w : World) (hv : Is w v ts) : Calls Try.prog 6 #[.agg #[.int .i64 s, .int .i64 d, .int .i64 l], v] w fun e w' => e = .returned (.bool true) ∧ Fr w w' (fun _ => False) := by
  obtain ⟨ao, tcap, rfl, htl, _, _⟩ := id hv
  have HTS := hid hv
  clear hv
  by_cases h : OkV s d l
  · have HR := hid (fun W : World => right_ok h W)
    have HW := hid (fun (t : Int) (W : World) => within_any t W)
    have HV := hid h
    have HS := hid (fun (T : Int) (hT : Ti T) (W : World) => starts_ok (t := T) h hT W)
    have HO := hid (fun (T : Int) (hT : Ti T) (M : Int) (W : World) => open_ok (t := T) M h hT W)
    obtain ⟨i0, hinfo, hz0, hz1, hz2⟩ := info_parts Try.info_sl
    clear h
    go_enter Try.func6, Try.ntmps6
    go_wp2_with fail
    refine (HR.out _).mono ?_
    rintro e w1 ⟨rfl, hf1⟩
    have HB0 : Hid (OB w w1 s d l nilV nilV [] [] [] [] 0) := ⟨⟨(VF.new w s d l).step hf1, World.ownsRow_nil _ _ _ _, World.ownsRow_nil _ _ _ _, fun b h => by simp [nilV, Value.ownBlock] at h, ⟨KpI.nil _ _, KpI.nil _ _, fun i j h => by simp at h⟩⟩, rfl, rfl, fun i => by simp, fun i x hx => by simp at hx⟩
    clear hf1 HR
    go_wp2_with fail
    go_loopg [5, 6, 7] (min ts.length 15) (fun g s5 s6 s7 wx => ∃ (i : Nat) (VK VW : List Value) (xs : List (List Int)), s7 = .int .i64 (i : Int) ∧ i + g = min ts.length 15 ∧ Hid (OB w wx s d l s5 s6 VK VW xs xs (4 * i)) ∧ Hid (Asked s d l ts xs i))
    case atStart => exact ⟨0, [], [], [], rfl, by omega, HB0, fun q hq => absurd hq (Nat.not_lt_zero q)⟩
    case round =>
      obtain ⟨i, VK, VW, xs, rfl, hg, HB, HQ⟩ := hrel
      clear HB0
      cases gk with
      | zero =>
        go_upto_region 6 with fail
        go_cut [34] (fun s34 wx => s34 = .bool false ∧ wx = wr)
        case first =>
          by_cases t1 : (i : Int) < (ts.length : Int)
          · have t2 : ¬ (i : Int) < 15 := by omega
            go_wp2_with fail
            go_meet
            exact ⟨rfl, rfl⟩
          · go_wp2_with fail
            go_meet
            exact ⟨rfl, rfl⟩
        case rest =>
          obtain ⟨rfl, rfl⟩ := hcut
          have hn60 : 4 * i ≤ 60 := by omega
          have hVK : VK.length = 4 * i := by rw [HB.out.o.bk.k.vlen, HB.out.len]
          have hVW : VW.length = 4 * i := by rw [HB.out.o.bk.u.vlen, HB.out.len]
          obtain ⟨aK, cK, rfl⟩ := own_nil_shape HB.out.o.sk
          obtain ⟨aW, cW, rfl⟩ := own_nil_shape HB.out.o.sw
          rw [hVK, hVW] at HB
          rw [hVK, hVW]
          have HVK := hid hVK
          have HVW := hid hVW
          have HIM := hid (show i = min ts.length 15 by omega)
          clear hVK hVW hg
          generalize hn : 4 * i = n at *
          have HN := hid hn
          clear hn
          go_wp2_with fail
          refine (apart_any HB.out HVK.out HVW.out hn60).mono ?_
          rintro e w2 ⟨rfl, ks, hob⟩
          have HB2 := hid hob
          clear hob HB
          go_wp2_with fail
          go_loopg [17] (min ts.length 15) (fun g s17 wx => ∃ q : Nat, s17 = .int .i64 (q : Int) ∧ q + g = min ts.length 15 ∧ Hid (OB w wx s d l (.slice aK n cK) (.slice aW n cW) VK VW ks xs n))
          case atStart => exact ⟨0, rfl, by omega, HB2⟩
          case round =>
            clear HB2
            obtain ⟨q, rfl, hg, HB⟩ := hrel
            cases gk with
            | zero =>
              go_upto_region 18 with fail
              go_cut [97] (fun s97 wx => s97 = .bool false ∧ wx = wr)
              case first =>
                by_cases t1 : (q : Int) < (ts.length : Int)
                · have t2 : ¬ (q : Int) < 15 := by omega
                  go_wp2_with fail
                  go_meet
                  exact ⟨rfl, rfl⟩
                · go_wp2_with fail
                  go_meet
                  exact ⟨rfl, rfl⟩
              case rest =>
                obtain ⟨rfl, rfl⟩ := hcut
                clear hg
                go_wp2_with fail
                refine (head_any _).mono ?_
                rintro e w13 ⟨rfl, hf13⟩
                have HF13 := hid (HB.out.o.vf.fr.trans hf13)
                clear hf13
                go_wp2_with fail
                go_ret
                exact ⟨rfl, HF13.out⟩
            | succ g =>
              have t1 : (q : Int) < (ts.length : Int) := by omega
              have t2 : (q : Int) < 15 := by omega
              have hi : q < ts.length := by omega
              have hqn : 4 * q + 2 < n := by have := HN.out; have := HIM.out; omega
              have HG := hid hg
              have hq15 : q < 15 := by omega
              obtain ⟨eq1, eq2⟩ := HQ.out q (by have := HIM.out; omega)
              clear hg
              obtain ⟨a2, cap2, e, _, _, hck⟩ := HTS.out.fr HB.out.o.vf.fr
              obtain ⟨tb, toff, e2, hck2⟩ := hck (by intro e; subst e; simp at hi)
              cases e
              cases e2
              have hcell := hck2 q hi
              generalize ts.getD q 0 = t at *
              clear hck hck2
              obtain ⟨hT1, hT2⟩ := within_bd t
              obtain ⟨c0, c1, c2⟩ := HB.out.o.vf.vw.cells
              have hlt := HB.out.o.vf.vw.lt
              have HE1 := hid eq1
              have HE2 := hid eq2
              clear eq1 eq2
              go_wp2_with fail
              refine (HW.out _ _).mono ?_
              rintro e w2 ⟨rfl, hw2⟩
              subst hw2
              generalize t.tmod 576460752303423488 = T at *
              have hTi : Ti T := by unfold Ti; omega
              have HTi := hid hTi
              have HL := hid (startsL_short (t := T) HV.out)
              have HFT := hid (startsL_fits HV.out hTi)
              clear hTi
              go_wp2_with fail
              refine (HS.out T HTi.out _).mono ?_
              rintro e w3 ⟨b1, rfl, hb1, hr1, hf3⟩
              have HB3 := hid (HB.out.step hf3)
              have HI1 := hid (row_is hr1 HFT.out (by have := HL.out; omega) (startsL s d T).length)
              clear hb1 hr1 hf3 c0 c1 c2 hlt hcell HB
              obtain ⟨c0, c1, c2⟩ := HB3.out.o.vf.vw.cells
              have hlt := HB3.out.o.vf.vw.lt
              go_wp2_with fail
              refine (HO.out T HTi.out _ _).mono ?_
              rintro e w4 ⟨v2, rfl, hr2⟩
              have hw4 := (open_own hr2 HL.out).1
              have HI2 := hid (own_is hw4 (openL_fits' (s := s) (M := T) (l := l) HFT.out) (by have := HL.out; have := openL_len s l T (startsL s d T); omega))
              have HI1b := hid (HI1.out.fr hr2.fr)
              have HB4 := hid (HB3.out.step hr2.fr)
              clear hr2 hw4 c0 c1 c2 hlt HB3 HI1
              obtain ⟨gW, cW', e1, hcW⟩ := spine_cell HB4.out.o.sw (i := 4 * q) (by rw [HVW.out]; omega)
              simp only [Value.slice.injEq] at e1
              obtain ⟨rfl, hnn1, rfl⟩ := e1
              clear hnn1
              have hxn := HB4.out.len
              have hu1 := HB4.out.o.bk.u.own (4 * q) (by omega)
              have hu2 := HB4.out.o.bk.u.own (4 * q + 2) (by omega)
              rw [HE1.out] at hu1
              rw [HE2.out] at hu2
              have HS1 := hid (same_true _ _ (startsL s d T) w4 HI1b.out (own_is hu1 HFT.out (by have := HL.out; omega)))
              have HU2 := hid (own_is hu2 (openL_fits' (s := s) (M := T) (l := l) HFT.out) (by have := HL.out; have := openL_len s l T (startsL s d T); omega))
              have HCW := hid (fun (W : World) (h : OB w W s d l (.slice aK n cK) (.slice (some ⟨gW, 0, none⟩) n cW) VK VW ks xs n) => (show W.cell? ⟨gW, 4 * q + 2, none⟩ = some (VW.getD (4 * q + 2) nilV) from by
                obtain ⟨g1, c1, e1, h1⟩ := spine_cell h.o.sw (i := 4 * q + 2) (by rw [HVW.out]; exact hqn)
                simp only [Value.slice.injEq] at e1
                obtain ⟨e1, _⟩ := e1
                cases e1
                exact h1))
              clear hu1 hu2 hxn
              generalize startsL s d T = X1 at *
              generalize hA1 : VW.getD (4 * q) nilV = A1 at *
              generalize hA2 : VW.getD (4 * q + 2) nilV = A2 at *
              clear hA1 hA2
              go_wp2_with fail
              refine HS1.out.mono ?_
              rintro e w5 ⟨rfl, hf5⟩
              have HB5 := hid (HB4.out.step hf5)
              have hcW2 := HCW.out _ HB5.out
              have HS2 := hid (same_true _ _ (openL s l T X1) w5 (HI2.out.fr hf5) (HU2.out.fr hf5))
              clear hf5 HB4 hcW HS1 HI1b HI2 HU2
              go_wp2_with fail
              refine HS2.out.mono ?_
              rintro e w6 ⟨rfl, hf6⟩
              have HB6 := hid (HB5.out.step hf6)
              clear hf6 HB5 hcW2 HS2
              go_wp2_with fail
              go_roundg g
              case measure => omega
              case rel => exact ⟨q + 1, by go_num, by have := HG.out; omega, HB6⟩
      | succ g =>
        have t1 : (i : Int) < (ts.length : Int) := by omega
        have t2 : (i : Int) < 15 := by omega
        have hi : i < ts.length := by omega
        have hi20 : i < 15 := by omega
        have HG := hid hg
        clear hg
        obtain ⟨a2, cap2, e, _, _, hck⟩ := HTS.out.fr HB.out.o.vf.fr
        obtain ⟨tb, toff, e2, hck2⟩ := hck (by intro e; subst e; simp at hi)
        cases e
        cases e2
        have hcell := hck2 i hi
        generalize ht : ts.getD i 0 = t at *
        have HT := hid ht
        clear hck hck2 ht
        obtain ⟨hT1, hT2⟩ := within_bd t
        obtain ⟨c0, c1, c2⟩ := HB.out.o.vf.vw.cells
        have hlt := HB.out.o.vf.vw.lt
        go_wp2_with fail
        refine (HW.out _ _).mono ?_
        rintro e w2 ⟨rfl, hw2⟩
        subst hw2
        generalize hTT : t.tmod 576460752303423488 = T at *
        have HTT := hid hTT
        clear hTT
        have hTi : Ti T := by unfold Ti; omega
        have HTi := hid hTi
        have HL := hid (startsL_short (t := T) HV.out)
        have HFT := hid (startsL_fits HV.out hTi)
        clear hTi
        go_wp2_with fail
        refine (HS.out T HTi.out _).mono ?_
        rintro e w3 ⟨b1, rfl, hb1, hr1, hf3⟩
        have HO3 := hid (HB.out.o.keep hf3 (starts_own hb1 hr1 HL.out))
        clear hb1 hr1 hf3 c0 c1 c2 hlt hcell
        obtain ⟨c0, c1, c2⟩ := HO3.out.vf.vw.cells
        have hlt := HO3.out.vf.vw.lt
        go_wp2_with fail
        refine (HS.out T HTi.out _).mono ?_
        rintro e w3' ⟨b2, rfl, hb2, hr2, hf3'⟩
        have HO3' := hid (HO3.out.keep hf3' (starts_own hb2 hr2 HL.out))
        clear hb2 hr2 hf3' c0 c1 c2 hlt
        obtain ⟨c0, c1, c2⟩ := HO3'.out.vf.vw.cells
        have hlt := HO3'.out.vf.vw.lt
        go_wp2_with fail
        refine (HO.out T HTi.out _ _).mono ?_
        rintro e w4 ⟨v2, rfl, hr2⟩
        obtain ⟨ho2, hs2⟩ := open_own hr2 HL.out
        have HO4 := hid (HO3'.out.keep hr2.fr ho2)
        have HS2 := hid hs2
        clear hr2 ho2 hs2 c0 c1 c2 hlt
        obtain ⟨c0, c1, c2⟩ := HO4.out.vf.vw.cells
        have hlt := HO4.out.vf.vw.lt
        go_wp2_with fail
        refine (HO.out T HTi.out _ _).mono ?_
        rintro e w5 ⟨v3, rfl, hr3⟩
        obtain ⟨ho3, hs3⟩ := open_own hr3 HL.out
        have HO5 := hid (HO4.out.keep hr3.fr ho3)
        have HS3 := hid hs3
        clear hr3 ho3 hs3 c0 c1 c2 hlt
        obtain ⟨A2, m2, cp2, rfl⟩ := HS2.out
        obtain ⟨A3, m3, cp3, rfl⟩ := HS3.out
        have hVK : VK.length = xs.length := HB.out.o.bk.k.vlen
        have hVW : VW.length = xs.length := HB.out.o.bk.u.vlen
        have hxl := HB.out.len
        have hsz5 := HO5.out.size
        have HO2 := hid (openL_fits' (s := s) (M := T) (l := l) HFT.out)
        have HL2 := hid (Nat.le_trans (openL_len s l T (startsL s d T)) HL.out)
        generalize hx1 : startsL s d T = X1 at *
        generalize hx2 : openL s l T X1 = X2 at *
        have HX1 := hid hx1
        have HX2 := hid hx2
        clear hx1 hx2
        go_wp2_with (at_builtin; refine wpList_append_keep _ rfl _ _ 36 rfl (w.heap.size + 1) 27 i0 (.slice none 0 0) 24 Try.underlying36 hinfo hz0 hz1 hz2 rfl _ _ _ rfl (own_fr HO5.out.sk (alloc_fr w5 _ (fun _ => False)) (fun _ _ h => h)) ⟨w5.heap.size, 0, none⟩ 4 4 [_, _, _, _] rfl rfl (four_new w5 _ _ _ _ _) (fun x hx => by simp at hx; rcases hx with rfl | rfl | rfl | rfl <;> rfl) (by unfold maxLen; omega) (by omega) (by simp; omega) ?_; intro v' w6 hown6 hgrow6 hat6 _; have HO6 := hid (HO5.out.growK _ hown6 hgrow6 hat6); clear hown6 hgrow6 hat6)
        obtain ⟨ow1, ow3⟩ := own_four HO6.out hVK
        have HI1 := hid (own_is ow1 HFT.out (by have := HL.out; omega))
        have HI3 := hid (own_is ow3 HO2.out (by have := HL2.out; omega))
        clear ow1 ow3
        refine (copied_any _ X1 w6 HI1.out ⟨_, _, _, rfl⟩ HL.out).mono ?_
        rintro e w7 ⟨u1, rfl, hu1, hf7⟩
        have HO7 := hid (HO6.out.want hf7 hu1)
        have HC2 := hid (copied_any _ X1 w7 (HI1.out.fr hf7) ⟨_, _, _, rfl⟩ HL.out)
        have HI3b := hid (HI3.out.fr hf7)
        have HS1u := hid (own_nil_shape hu1)
        clear hu1 hf7 HI1 HI3
        go_wp2_with fail
        refine HC2.out.mono ?_
        rintro e w8 ⟨u2, rfl, hu2, hf8⟩
        have HO8 := hid (HO7.out.want hf8 hu2)
        have HC3 := hid (copied_any _ X2 w8 (HI3b.out.fr hf8) ⟨_, _, _, rfl⟩ HL2.out)
        have HI3c := hid (HI3b.out.fr hf8)
        have HS2u := hid (own_nil_shape hu2)
        clear hu2 hf8 HC2 HI3b
        go_wp2_with fail
        refine HC3.out.mono ?_
        rintro e w9 ⟨u3, rfl, hu3, hf9⟩
        have HO9 := hid (HO8.out.want hf9 hu3)
        have HC4 := hid (copied_any _ X2 w9 (HI3c.out.fr hf9) ⟨_, _, _, rfl⟩ HL2.out)
        have HS3u := hid (own_nil_shape hu3)
        clear hu3 hf9 HC3 HI3c
        go_wp2_with fail
        refine HC4.out.mono ?_
        rintro e wA ⟨u4, rfl, hu4, hfA⟩
        have HOB := hid (HO9.out.want hfA hu4)
        obtain ⟨p4, q4, rfl⟩ := own_nil_shape hu4
        obtain ⟨p3, q3, rfl⟩ := HS3u.out
        obtain ⟨p2, q2, rfl⟩ := HS2u.out
        obtain ⟨p1, q1, rfl⟩ := HS1u.out
        have hsz9 := HOB.out.size
        clear hu4 hfA HC4
        go_wp2_with (at_builtin; refine wpList_append_keep _ rfl _ _ 36 rfl (w.heap.size + 1) 27 i0 (.slice none 0 0) 24 Try.underlying36 hinfo hz0 hz1 hz2 rfl _ _ _ rfl (own_fr HOB.out.sw (alloc_fr wA _ (fun _ => False)) (fun _ _ h => h)) ⟨wA.heap.size, 0, none⟩ 4 4 [_, _, _, _] rfl rfl (four_new wA _ _ _ _ _) (fun x hx => by simp at hx; rcases hx with rfl | rfl | rfl | rfl <;> rfl) (by unfold maxLen; omega) (by omega) (by simp; omega) ?_; intro v'' w10 hown10 hgrow10 hat10 _; have HOA := hid (HOB.out.growW _ hown10 hgrow10 hat10); clear hown10 hgrow10 hat10)
        go_roundg g
        case measure => omega
        case rel =>
          exact ⟨i + 1, _, _, _, by go_num, by have := HG.out; omega, HB.out.add4 HOA.out HL.out HL2.out HFT.out HO2.out, HQ.out.next hxl (by rw [HT.out, HTT.out, HX1.out]) (by rw [HT.out, HTT.out, HX2.out])⟩
  · have HR := hid (fun W : World => right_bad h W)
    clear h
    go_enter Try.func6, Try.ntmps6
    go_wp2_with fail
    refine (HR.out _).mono ?_
    rintro e w1 ⟨rfl, hf1⟩
    have HF1 := hid ((alloc_fr w _ _).trans hf1)
    clear hf1
    go_wp2_with fail
    refine (head_any _).mono ?_
    rintro e w3 ⟨rfl, hf3⟩
    have HF3 := hid (HF1.out.trans hf3)
    clear hf3
    go_wp2_with fail
    go_ret
    exact ⟨rfl, HF3.out⟩
end Go.Proofs.Ytfdkinghcalhfab
