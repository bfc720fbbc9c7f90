/- MergeOwn: a walk. -/
import Derived.Test.YtodhamgcoflhpaaMOwn0
namespace Go.Proofs.Ytodhamgcoflhpaa.M
open Go.RowKit

/-- What stays: the lists handed in, what is told again, and the copies. -/
structure K6 (w V : World) (N4 N5 N6 N9 : Nat) (u9 u19 u14 u18 u11 u20 : Value) (X S : List Rw) (Lc : List Int) : Prop where
  x : V.ownsRow w.heap.size 43 7 u9 X.length (rc X) ∧ ∀ k, u9.ownBlock = some k → k < N4
  xs : V.ownsRow w.heap.size 43 7 u19 X.length (rc X) ∧ ∀ k, u19.ownBlock = some k → N9 ≤ k
  s : V.ownsRow w.heap.size 43 7 u14 S.length (rc S) ∧ ∀ k, u14.ownBlock = some k → N5 ≤ k ∧ k < N6
  want : V.ownsRow w.heap.size 43 7 u18 S.length (rc S) ∧ ∀ k, u18.ownBlock = some k → N9 ≤ k
  l : V.ownsRow w.heap.size 3 1 u11 Lc.length (I.iv Lc) ∧ ∀ k, u11.ownBlock = some k → k < N4
  ls : V.ownsRow w.heap.size 3 1 u20 Lc.length (I.iv Lc) ∧ ∀ k, u20.ownBlock = some k → N9 ≤ k
  n1 : N4 ≤ N5 ∧ N5 ≤ N6 ∧ N6 ≤ N9
/-- Blocks that are written to. -/
def Wt (N4 N5 N6 N9 : Nat) (k : Nat) : Prop := Iv N4 N5 k ∨ Iv N6 N9 k
theorem K6.fr {w V V' : World} {N4 N5 N6 N9 : Nat} {u9 u19 u14 u18 u11 u20 : Value} {X S : List Rw} {Lc : List Int} (h : K6 w V N4 N5 N6 N9 u9 u19 u14 u18 u11 u20 X S Lc) (hf : Fr V V' (Wt N4 N5 N6 N9)) : K6 w V' N4 N5 N6 N9 u9 u19 u14 u18 u11 u20 X S Lc := by
  obtain ⟨⟨x1, x2⟩, ⟨y1, y2⟩, ⟨z1, z2⟩, ⟨p1, p2⟩, ⟨q1, q2⟩, ⟨r1, r2⟩, n1⟩ := h
  unfold Wt Iv at hf
  exact ⟨⟨own_fr x1 hf (fun k e h => by have := x2 k e; omega), x2⟩, ⟨own_fr y1 hf (fun k e h => by have := y2 k e; omega), y2⟩, ⟨own_fr z1 hf (fun k e h => by have := z2 k e; omega), z2⟩, ⟨own_fr p1 hf (fun k e h => by have := p2 k e; omega), p2⟩, ⟨own_fr q1 hf (fun k e h => by have := q2 k e; omega), q2⟩, ⟨own_fr r1 hf (fun k e h => by have := r2 k e; omega), r2⟩, n1⟩

theorem newL (V : World) (L : List Value) (t : TypeId) : ∀ j u, L[j]? = some u → (V.alloc (.cells L.toArray t)).cell? ((⟨V.heap.size, 0, none⟩ : Addr).add j) = some u := by
  intro j u hj
  rw [Addr.add_lit, Nat.zero_add, World.cell?_alloc_new]
  simpa using hj

set_option maxHeartbeats 8000000 in
set_option maxRecDepth 100000 in
theorem own_walk {A B : List Rw} {C D : List Int} {va vb vc vd : Value} (w : World) (ha : RdR w va A) (hb : RdR w vb B) (hc : RdI w vc C) (hd : RdI w vd D) :
    Calls Try.prog 5 #[va, vb, vc, vd] w fun r w' => r = .returned (.bool true) ∧ Fr w w' (fun _ => False) := by
  have HA := hid ha
  have HB := hid hb
  have HC := hid hc
  have HD := hid hd
  clear ha hb hc hd
  go_enter Try.func5, Try.ntmps5
  go_wp2_with fail
  refine (known_any _).mono ?_
  rintro r w1 ⟨rfl, hf⟩
  have HF1 := hid hf
  clear hf
  go_wp2_with fail
  refine (ordered_any _ (HA.out.step HF1.out)).mono ?_
  rintro r w2 ⟨u9, rfl, h9⟩
  have hbx := ordL_len2 A 200
  generalize ordL (A.take 200) = X at *
  have H9 := hid (Ro7.behind h9 HF1.out)
  clear h9
  go_wp2_with fail
  refine (ordered_any _ (HB.out.step H9.out.2)).mono ?_
  rintro r w3 ⟨u10, rfl, h10⟩
  have hby := ordL_len2 B 200
  generalize ordL (B.take 200) = Y at *
  have H10 := hid (Ro7.behind h10 H9.out.2)
  have H9b := hid (M.W.Ro7.fr H9.out h10.2)
  clear h10 H9
  go_wp2_with fail
  refine (rising_any _ (HC.out.step H10.out.2)).mono ?_
  rintro r w3b ⟨u11, rfl, Lc, h11, hlc⟩
  have H11 := hid (Eo.behind h11 H10.out.2)
  have H9c := hid (M.W.Ro7.fr H9b.out h11.2)
  have H10c := hid (M.W.Ro7.fr H10.out h11.2)
  clear h11 H9b H10
  go_wp2_with fail
  refine (rising_any _ (HD.out.step H11.out.2)).mono ?_
  rintro r w4 ⟨u12, rfl, Lm, h12, hlm⟩
  have H12 := hid (Eo.behind h12 H11.out.2)
  have H9 := hid (M.W.Ro7.fr H9c.out h12.2)
  have H10 := hid (M.W.Ro7.fr H10c.out h12.2)
  have H11d := hid (I.Eo.fr H11.out h12.2)
  clear h12 H9c H10c H11 HA HB HC HD HF1
  obtain ⟨a9, c9, e9⟩ := M.W.Ro7.shape H9.out
  obtain ⟨a10, c10, e10⟩ := M.W.Ro7.shape H10.out
  obtain ⟨a11, c11, e11⟩ := I.Eo.shape H11d.out
  obtain ⟨a12, c12, e12⟩ := I.Eo.shape H12.out
  subst e9 e10 e11 e12
  go_wp2_with fail
  refine (rows2b H9.out H10.out (by omega)).mono ?_
  rintro r w5 ⟨u13, rfl, R, h13, hlr⟩
  have H13 := hid h13
  have hf5 := h13.2
  obtain ⟨a13, c13, e13⟩ := M.W.Ro7.shape h13
  subst e13
  have H9b := hid (M.W.Ro7.fr H9.out hf5)
  have H10b := hid (M.W.Ro7.fr H10.out hf5)
  have H11b := hid (I.Eo.fr H11d.out hf5)
  have H12b := hid (I.Eo.fr H12.out hf5)
  clear h13 hf5 H10 H12
  go_wp2_with fail
  refine (rows2b H9b.out H10b.out (by omega)).mono ?_
  rintro r w6 ⟨u14, rfl, S, h14, hls⟩
  have H14 := hid h14
  have hf6 := h14.2
  obtain ⟨a14, c14, e14⟩ := M.W.Ro7.shape h14
  subst e14
  have H9c := hid (M.W.Ro7.fr H9b.out hf6)
  have H11c := hid (I.Eo.fr H11b.out hf6)
  have H12c := hid (I.Eo.fr H12b.out hf6)
  clear h14 hf6 H9b H10b H11b H12b
  go_wp2_with fail
  refine (rows1b H9c.out (by omega)).mono ?_
  rintro r w7 ⟨u15, rfl, T, h15, hlt⟩
  have H15 := hid h15
  have hf7 := h15.2
  obtain ⟨a15, c15, e15⟩ := M.W.Ro7.shape h15
  subst e15
  have H9b := hid (M.W.Ro7.fr H9c.out hf7)
  have H11b := hid (I.Eo.fr H11c.out hf7)
  have H12b := hid (I.Eo.fr H12c.out hf7)
  clear h15 hf7 H9c H11c H12c
  go_wp2_with fail
  refine (lists2 H11b.out H12b.out (by omega)).mono ?_
  rintro r w8 ⟨u16, rfl, Ln, h16, hln⟩
  have H16 := hid h16
  have hf8 := h16.2
  obtain ⟨a16, c16, e16⟩ := I.Eo.shape h16
  subst e16
  have H9c := hid (M.W.Ro7.fr H9b.out hf8)
  have H11c := hid (I.Eo.fr H11b.out hf8)
  clear h16 hf8 H9b H11b H12b
  go_wp2_with fail
  refine (once_any _ (RdI.of H11c.out.1 (by omega)) hlc).mono ?_
  rintro r w8b ⟨u51, rfl, Lo, h51, hlo⟩
  have H51 := hid h51
  have hf8b := h51.2
  obtain ⟨a51, c51, e51⟩ := I.Eo.shape h51
  subst e51
  have H9b := hid (M.W.Ro7.fr H9c.out hf8b)
  have H11b := hid (I.Eo.fr H11c.out hf8b)
  clear h51 hf8b H9c H11c
  go_wp2_with fail
  refine (lists1 H51.out (by omega)).mono ?_
  rintro r w9 ⟨u17, rfl, Lq, h17, hlq⟩
  have H17 := hid h17
  have hf9 := h17.2
  obtain ⟨a17, c17, e17⟩ := I.Eo.shape h17
  subst e17
  have H9c := hid (M.W.Ro7.fr H9b.out hf9)
  have H11c := hid (I.Eo.fr H11b.out hf9)
  have H14c := hid (M.W.Ro7.fr (M.W.Ro7.fr (M.W.Ro7.fr (M.W.Ro7.fr H14.out H15.out.2) H16.out.2) H51.out.2) H17.out.2)
  clear h17 hf9 H9b H11b
  go_wp2_with (at_builtin; go_must (refine wpl_ap (wb := w9) rfl (.tmp 54) (.tmp 55) rfl _ [] rfl (empty_ro w9) _ S rfl (RdZ.ro (M.W.Ro7.fr H14c.out (alloc_fr w9 _ _))) (by simp; omega) ?_))
  intro u18 w10 h18 hgr
  try rw [List.nil_append] at h18
  have H18 := hid h18
  have hf10 := h18.2
  obtain ⟨a18, c18, e18⟩ := M.W.Ro7.shape h18
  subst e18
  have H9b := hid (M.W.Ro7.fr H9c.out hf10)
  clear h18 hgr hf10
  go_wp2_with (at_builtin; go_must (refine wpl_ap (wb := w10) rfl (.tmp 57) (.tmp 58) rfl _ [] rfl (empty_ro w10) _ X rfl (RdZ.ro (M.W.Ro7.fr H9b.out (alloc_fr w10 _ _))) (by simp; omega) ?_))
  intro u19 w11 h19 hgr
  try rw [List.nil_append] at h19
  have H19 := hid h19
  have hf11 := h19.2
  obtain ⟨a19, c19, e19⟩ := M.W.Ro7.shape h19
  subst e19
  have H11b := hid (I.Eo.fr (I.Eo.fr H11c.out H18.out.2) hf11)
  clear h19 hgr hf11
  go_wp2_with (at_builtin; go_must (refine wpl_ai (wb := w11) rfl (.tmp 60) (.tmp 61) rfl _ [] rfl (empty_eo w11) _ Lc rfl (RzI.ro (I.Eo.fr H11b.out (alloc_fr w11 _ _))) (by simp; omega) ?_))
  intro u20 V h20 hgr
  try rw [List.nil_append] at h20
  have H20 := hid h20
  obtain ⟨a20, c20, e20⟩ := I.Eo.shape h20
  subst e20
  clear h20 hgr
  -- @half
  have F9V := hid ((H18.out.2.trans H19.out.2).trans H20.out.2)
  have F8bV := hid (H17.out.2.trans F9V.out)
  have F8V := hid (H51.out.2.trans F8bV.out)
  have F7V := hid (H16.out.2.trans F8V.out)
  have F6V := hid (H15.out.2.trans F7V.out)
  have F5V := hid (H14.out.2.trans F6V.out)
  have F4V := hid (H13.out.2.trans F5V.out)
  have HFw := hid (H9.out.2.trans F4V.out)
  have n4 : w.heap.size ≤ w4.heap.size := H9.out.2.size
  have n5 : w4.heap.size ≤ w5.heap.size := H13.out.2.size
  have n6 : w5.heap.size ≤ w6.heap.size := H14.out.2.size
  have n7 : w6.heap.size ≤ w7.heap.size := H15.out.2.size
  have n8 : w7.heap.size ≤ w8.heap.size := H16.out.2.size
  have n8b : w8.heap.size ≤ w8b.heap.size := H51.out.2.size
  have n9 : w8b.heap.size ≤ w9.heap.size := H17.out.2.size
  have n10 : w9.heap.size ≤ w10.heap.size := H18.out.2.size
  have n11 : w10.heap.size ≤ w11.heap.size := H19.out.2.size
  have nV : w11.heap.size ≤ V.heap.size := H20.out.2.size
  have HK : Hid (K6 w V w4.heap.size w5.heap.size w6.heap.size w9.heap.size (.slice a9 X.length c9) (.slice a19 X.length c19) (.slice a14 S.length c14) (.slice a18 S.length c18) (.slice a11 Lc.length c11) (.slice a20 Lc.length c20) X S Lc) :=
    ⟨⟨own_fr H9.out.1 F4V.out (fun _ _ h => h), fun k e => (H9.out.1.lt k e).2⟩,
     ⟨own_mono (own_fr H19.out.1 H20.out.2 (fun _ _ h => h)) (by omega), fun k e => by have := (H19.out.1.lt k e).1; omega⟩,
     ⟨own_mono (own_fr H14.out.1 F6V.out (fun _ _ h => h)) (by omega), fun k e => (H14.out.1.lt k e)⟩,
     ⟨own_mono (own_fr H18.out.1 (H19.out.2.trans H20.out.2) (fun _ _ h => h)) (by omega), fun k e => (H18.out.1.lt k e).1⟩,
     ⟨own_fr H11d.out.1 F4V.out (fun _ _ h => h), fun k e => (H11d.out.1.lt k e).2⟩,
     ⟨own_mono H20.out.1 (by omega), fun k e => by have := (H20.out.1.lt k e).1; omega⟩, by omega⟩
  have HR := hid (And.intro (own_fr H13.out.1 F5V.out (fun _ _ h => h)) (fun k e => (H13.out.1.lt k e : Iv w4.heap.size w5.heap.size k)))
  have HT := hid (And.intro (own_fr H15.out.1 F7V.out (fun _ _ h => h)) (fun k e => (H15.out.1.lt k e : Iv w6.heap.size w7.heap.size k)))
  have HN := hid (And.intro (own_fr H16.out.1 F8V.out (fun _ _ h => h)) (fun k e => (H16.out.1.lt k e : Iv w7.heap.size w8.heap.size k)))
  have HQ := hid (And.intro (own_fr H17.out.1 F9V.out (fun _ _ h => h)) (fun k e => (H17.out.1.lt k e : Iv w8b.heap.size w9.heap.size k)))
  clear F9V F8bV F8V F7V F6V F5V F4V H9 H11d H13 H14 H15 H16 H51 H17 H18 H19 H20 H9b H9c H11b H11c H14c
  generalize w4.heap.size = N4 at *
  generalize w5.heap.size = N5 at *
  generalize w6.heap.size = N6 at *
  generalize w7.heap.size = N7 at *
  generalize w8.heap.size = N8 at *
  generalize w8b.heap.size = N8b at *
  generalize w9.heap.size = N9 at *
  go_wp2_with fail
  go_loopg [21] R.length (fun g sx wx => ∃ (i : Nat) (xs : List Value), sx = .int .i64 (i : Int) ∧ i + g = R.length ∧ Hid (wx.ownsRow N4 43 7 (.slice a13 R.length c13) R.length xs) ∧ Hid (Fr V wx (Iv N4 N5)))
  case atStart => exact ⟨0, _, rfl, by omega, HR.out.1, Fr.refl _ _⟩
  case round =>
    obtain ⟨i, xs, rfl, hg, HO, HF⟩ := hrel
    cases gk with
    | succ gk =>
      have t0 : (0 : Int) ≤ (i : Int) := by omega
      have t1 : (i : Int) < (R.length : Int) := by omega
      have HG := hid hg
      obtain ⟨gg, cc, e⟩ := own_someN HO.out (by omega)
      obtain ⟨e5, e7⟩ : a13 = some ⟨gg, 0, none⟩ ∧ c13 = cc := by simpa using e
      subst e5 e7
      obtain ⟨hz, hgl⟩ := own_freeN HO.out
      have hgI : Iv N4 N5 gg := HR.out.2 gg rfl
      obtain ⟨v0, k0⟩ := own_atN HO.out (i * 7) (by omega)
      obtain ⟨v1, k1⟩ := own_atN HO.out (i * 7 + 1) (by omega)
      obtain ⟨v2, k2⟩ := own_atN HO.out (i * 7 + 2) (by omega)
      obtain ⟨v3, k3⟩ := own_atN HO.out (i * 7 + 3) (by omega)
      obtain ⟨v4, k4⟩ := own_atN HO.out (i * 7 + 4) (by omega)
      obtain ⟨v5, k5⟩ := own_atN HO.out (i * 7 + 5) (by omega)
      obtain ⟨v6, k6⟩ := own_atN HO.out (i * 7 + 6) (by omega)
      clear hg e
      go_wp2_with fail
      go_roundg gk
      case measure => omega
      case rel => exact ⟨i + 1, _, by go_num, by have := HG.out; omega, (own_setN (own_setN (own_setN (own_setN (own_setN (own_setN (own_setN HO.out rfl _ _) rfl _ _) rfl _ _) rfl _ _) rfl _ _) rfl _ _) rfl _ _), (Fr.setCell (Fr.setCell (Fr.setCell (Fr.setCell (Fr.setCell (Fr.setCell (Fr.setCell HF.out (fun _ => hgI) _) (fun _ => hgI) _) (fun _ => hgI) _) (fun _ => hgI) _) (fun _ => hgI) _) (fun _ => hgI) _) (fun _ => hgI) _)⟩
    | zero =>
      have t1 : ¬ (i : Int) < (R.length : Int) := by omega
      clear hg
      have HF1 := hid (HF.out.mono (T := Wt N4 N5 N6 N9) (fun k _ h => by unfold Wt; unfold Iv at *; omega))
      have HR1 := HO
      have HT1 := hid (own_fr HT.out.1 HF.out (fun k e h => by have h2 := HT.out.2 k e; unfold Iv at *; omega))
      have HN1 := hid (own_fr HN.out.1 HF.out (fun k e h => by have h2 := HN.out.2 k e; unfold Iv at *; omega))
      have HQ1 := hid (own_fr HQ.out.1 HF.out (fun k e h => by have h2 := HQ.out.2 k e; unfold Iv at *; omega))
      generalize wr = V1 at *
      clear HO HF
      go_wp2_with fail
      go_loopg [22] T.length (fun g sx wx => ∃ (i : Nat) (xs : List Value), sx = .int .i64 (i : Int) ∧ i + g = T.length ∧ Hid (wx.ownsRow N6 43 7 (.slice a15 T.length c15) T.length xs) ∧ Hid (Fr V1 wx (Iv N6 N7)))
      case atStart => exact ⟨0, _, rfl, by omega, HT1.out, Fr.refl _ _⟩
      case round =>
        obtain ⟨i, xs, rfl, hg, HO, HF⟩ := hrel
        cases gk with
        | succ gk =>
          have t0 : (0 : Int) ≤ (i : Int) := by omega
          have t1 : (i : Int) < (T.length : Int) := by omega
          have HG := hid hg
          obtain ⟨gg, cc, e⟩ := own_someN HO.out (by omega)
          obtain ⟨e5, e7⟩ : a15 = some ⟨gg, 0, none⟩ ∧ c15 = cc := by simpa using e
          subst e5 e7
          obtain ⟨hz, hgl⟩ := own_freeN HO.out
          have hgI : Iv N6 N7 gg := HT.out.2 gg rfl
          obtain ⟨v0, k0⟩ := own_atN HO.out (i * 7) (by omega)
          obtain ⟨v1, k1⟩ := own_atN HO.out (i * 7 + 1) (by omega)
          obtain ⟨v2, k2⟩ := own_atN HO.out (i * 7 + 2) (by omega)
          obtain ⟨v3, k3⟩ := own_atN HO.out (i * 7 + 3) (by omega)
          obtain ⟨v4, k4⟩ := own_atN HO.out (i * 7 + 4) (by omega)
          obtain ⟨v5, k5⟩ := own_atN HO.out (i * 7 + 5) (by omega)
          obtain ⟨v6, k6⟩ := own_atN HO.out (i * 7 + 6) (by omega)
          clear hg e
          go_wp2_with fail
          go_roundg gk
          case measure => omega
          case rel => exact ⟨i + 1, _, by go_num, by have := HG.out; omega, (own_setN (own_setN (own_setN (own_setN (own_setN (own_setN (own_setN HO.out rfl _ _) rfl _ _) rfl _ _) rfl _ _) rfl _ _) rfl _ _) rfl _ _), (Fr.setCell (Fr.setCell (Fr.setCell (Fr.setCell (Fr.setCell (Fr.setCell (Fr.setCell HF.out (fun _ => hgI) _) (fun _ => hgI) _) (fun _ => hgI) _) (fun _ => hgI) _) (fun _ => hgI) _) (fun _ => hgI) _) (fun _ => hgI) _)⟩
        | zero =>
          have t1 : ¬ (i : Int) < (T.length : Int) := by omega
          clear hg
          have HF2 := hid (HF1.out.trans (HF.out.mono (fun k _ h => by unfold Wt; unfold Iv at *; omega)))
          have HR2 := hid (own_fr HR1.out HF.out (fun k e h => by have h2 := HR.out.2 k e; unfold Iv at *; omega))
          have HN2 := hid (own_fr HN1.out HF.out (fun k e h => by have h2 := HN.out.2 k e; unfold Iv at *; omega))
          have HQ2 := hid (own_fr HQ1.out HF.out (fun k e h => by have h2 := HQ.out.2 k e; unfold Iv at *; omega))
          generalize wr = V2 at *
          clear HO HF HF1 HR1 HN1 HQ1
          have n4' : N4 ≤ V2.heap.size := by have := HF2.out.size; omega
          obtain ⟨i2, hi2, hx0, hx1, hx2⟩ := M.W.infoP M.W.Try.info_r7
          have HR3 := hid (own_fr HR2.out (alloc_fr V2 (.cells #[.int .i64 0, .string ⟨#[]⟩, .int .i64 0, .int .i64 0, .int .i64 0, .int .i64 0, .int .i64 0, .int .i64 0, .string ⟨#[]⟩, .int .i64 0, .int .i64 0, .int .i64 0, .int .i64 0, .int .i64 0] 43) (fun _ => False)) (fun _ _ h => h))
          go_wp2_with (at_builtin; go_must (refine wpList_append_own_at _ rfl (.tmp 85) (.tmp 88) 22 rfl N4 43 i2 _ 7 64 Try.underlying22 hi2 hx0 hx1 hx2 rfl (by decide) _ R.length _ rfl HR3.out ⟨V2.heap.size, 0, none⟩ 2 2 [.int .i64 0, .string ⟨#[]⟩, .int .i64 0, .int .i64 0, .int .i64 0, .int .i64 0, .int .i64 0, .int .i64 0, .string ⟨#[]⟩, .int .i64 0, .int .i64 0, .int .i64 0, .int .i64 0, .int .i64 0] rfl rfl (newL V2 [.int .i64 0, .string ⟨#[]⟩, .int .i64 0, .int .i64 0, .int .i64 0, .int .i64 0, .int .i64 0, .int .i64 0, .string ⟨#[]⟩, .int .i64 0, .int .i64 0, .int .i64 0, .int .i64 0, .int .i64 0] _) (rc_one [⟨⟨0, ⟨#[]⟩, 0⟩, 0, 0, 0, 0⟩, ⟨⟨0, ⟨#[]⟩, 0⟩, 0, 0, 0, 0⟩]) (by unfold maxLen; omega) (by omega) (by simp; omega) ?_))
          intro v24 V3 hown hgr _ _
          have HF3 := hid (HF2.out.trans ((Fr.grown ((Fr.refl V2 (Iv N4 N5)).alloc _) hgr (fun k _ e => HR.out.2 k e)).mono (fun k _ h => by unfold Wt; unfold Iv at *; omega)))
          have HFg := hid (Fr.grown ((Fr.refl V2 (Iv N4 N5)).alloc _) hgr (fun k _ e => HR.out.2 k e))
          have HN3 := hid (own_fr HN2.out HFg.out (fun k e h => by have h2 := HN.out.2 k e; unfold Iv at *; omega))
          have HQ3 := hid (own_fr HQ2.out HFg.out (fun k e h => by have h2 := HQ.out.2 k e; unfold Iv at *; omega))
          obtain ⟨a24, c24, e24⟩ := own_nil_shape hown
          subst e24
          clear hown hgr HFg HN2 HQ2 HR2 HF2
          go_wp2_with fail
          go_loopg [23] Ln.length (fun g sx wx => ∃ (i : Nat) (xs : List Value), sx = .int .i64 (i : Int) ∧ i + g = Ln.length ∧ Hid (wx.ownsRow N7 3 1 (.slice a16 Ln.length c16) Ln.length xs) ∧ Hid (Fr V3 wx (Iv N7 N8)))
          case atStart => exact ⟨0, _, rfl, by omega, HN3.out, Fr.refl _ _⟩
          case round =>
            obtain ⟨i, xs, rfl, hg, HO, HF⟩ := hrel
            cases gk with
            | succ gk =>
              have t0 : (0 : Int) ≤ (i : Int) := by omega
              have t1 : (i : Int) < (Ln.length : Int) := by omega
              have HG := hid hg
              obtain ⟨gg, cc, e⟩ := own_someN HO.out (by omega)
              obtain ⟨e5, e7⟩ : a16 = some ⟨gg, 0, none⟩ ∧ c16 = cc := by simpa using e
              subst e5 e7
              obtain ⟨hz, hgl⟩ := own_freeN HO.out
              have hgI : Iv N7 N8 gg := HN.out.2 gg rfl
              obtain ⟨v0, k0⟩ := own_atN HO.out (i) (by omega)
              clear hg e
              go_wp2_with fail
              go_roundg gk
              case measure => omega
              case rel => exact ⟨i + 1, _, by go_num, by have := HG.out; omega, (own_setN HO.out rfl _ _), (Fr.setCell HF.out (fun _ => hgI) _)⟩
            | zero =>
              have t1 : ¬ (i : Int) < (Ln.length : Int) := by omega
              clear hg
              have HF4 := hid (HF3.out.trans (HF.out.mono (fun k _ h => by unfold Wt; unfold Iv at *; omega)))
              have HN4 := HO
              have HQ4 := hid (own_fr HQ3.out HF.out (fun k e h => by have h2 := HQ.out.2 k e; unfold Iv at *; omega))
              generalize wr = V4 at *
              clear HO HF HF3 HQ3
              have n4' : N7 ≤ V4.heap.size := by have := HF4.out.size; omega
              obtain ⟨i3, hi3, hw0, hw1', hw2'⟩ := M.W.infoP I.Try.info_elI
              have HN5 := hid (own_fr HN4.out (alloc_fr V4 (.cells #[.int .i64 1, .int .i64 2, .int .i64 3] 3) (fun _ => False)) (fun _ _ h => h))
              go_wp2_with (at_builtin; go_must (refine wpList_append_own_at _ rfl (.tmp 99) (.tmp 100) 44 rfl N7 3 i3 _ 1 8 Try.underlying44 hi3 hw0 hw1' hw2' rfl (by decide) _ Ln.length _ rfl HN5.out ⟨V4.heap.size, 0, none⟩ 3 3 [.int .i64 1, .int .i64 2, .int .i64 3] rfl rfl (newL V4 [.int .i64 1, .int .i64 2, .int .i64 3] _) (by intro u hu; simp at hu; rcases hu with rfl | rfl | rfl <;> rfl) (by unfold maxLen; omega) (by omega) (by simp; omega) ?_))
              intro v25 V5 hown hgr _ _
              have HF5 := hid (HF4.out.trans ((Fr.grown ((Fr.refl V4 (Iv N7 N8)).alloc _) hgr (fun k _ e => HN.out.2 k e)).mono (fun k _ h => by unfold Wt; unfold Iv at *; omega)))
              have HQ5 := hid (own_fr (own_fr HQ4.out (alloc_fr V4 (.cells #[.int .i64 1, .int .i64 2, .int .i64 3] 3) (Iv N7 N8)) (fun k e h => by have h2 := HQ.out.2 k e; unfold Iv at *; omega)) ((Fr.refl _ (Iv N7 N8)).grown hgr (fun k _ e => HN.out.2 k e)) (fun k e h => by have h2 := HQ.out.2 k e; unfold Iv at *; omega))
              obtain ⟨a25, c25, e25⟩ := own_nil_shape hown
              subst e25
              clear hown hgr HQ4 HN4 HF4
              go_wp2_with fail
              go_loopg [24] Lq.length (fun g sx wx => ∃ (i : Nat) (xs : List Value), sx = .int .i64 (i : Int) ∧ i + g = Lq.length ∧ Hid (wx.ownsRow N8b 3 1 (.slice a17 Lq.length c17) Lq.length xs) ∧ Hid (Fr V5 wx (Iv N8b N9)))
              case atStart => exact ⟨0, _, rfl, by omega, HQ5.out, Fr.refl _ _⟩
              case round =>
                obtain ⟨i, xs, rfl, hg, HO, HF⟩ := hrel
                cases gk with
                | succ gk =>
                  have t0 : (0 : Int) ≤ (i : Int) := by omega
                  have t1 : (i : Int) < (Lq.length : Int) := by omega
                  have HG := hid hg
                  obtain ⟨gg, cc, e⟩ := own_someN HO.out (by omega)
                  obtain ⟨e5, e7⟩ : a17 = some ⟨gg, 0, none⟩ ∧ c17 = cc := by simpa using e
                  subst e5 e7
                  obtain ⟨hz, hgl⟩ := own_freeN HO.out
                  have hgI : Iv N8b N9 gg := HQ.out.2 gg rfl
                  obtain ⟨v0, k0⟩ := own_atN HO.out (i) (by omega)
                  clear hg e
                  go_wp2_with fail
                  go_roundg gk
                  case measure => omega
                  case rel => exact ⟨i + 1, _, by go_num, by have := HG.out; omega, (own_setN HO.out rfl _ _), (Fr.setCell HF.out (fun _ => hgI) _)⟩
                | zero =>
                  have t1 : ¬ (i : Int) < (Lq.length : Int) := by omega
                  clear hg
                  have HFV := hid (HF5.out.trans (HF.out.mono (fun k _ h => by unfold Wt; unfold Iv at *; omega)))
                  generalize wr = V6 at *
                  clear HO HF HF5
                  have HKe := hid (HK.out.fr HFV.out)
                  have HFe := hid (HFw.out.trans2 HFV.out (fun k hk h => by unfold Wt Iv at h; omega))
                  have z1 : (2 : Int) ≤ ((R.length + 2 : Nat) : Int) := by omega
                  have z2 : (3 : Int) ≤ ((Ln.length + 3 : Nat) : Int) := by omega
                  have z3 : decide ((2 : Int) ≤ ((R.length + 2 : Nat) : Int)) = true := decide_eq_true z1
                  have z4 : decide ((3 : Int) ≤ ((Ln.length + 3 : Nat) : Int)) = true := decide_eq_true z2
                  go_wp2_with fail
                  refine (same_any _ (RdR.of HKe.out.s.1 (by omega)) (RdR.of HKe.out.want.1 (by omega))).mono ?_
                  rintro r w20 ⟨rfl, hf⟩
                  have HKf := hid (HKe.out.fr (hf.mono (fun _ _ h => h.elim)))
                  have HFf := hid (HFe.out.trans hf)
                  clear hf
                  go_wp2_with fail
                  refine (same_any _ (RdR.of HKf.out.x.1 (by omega)) (RdR.of HKf.out.xs.1 (by omega))).mono ?_
                  rintro r w21 ⟨rfl, hf⟩
                  have HKg := hid (HKf.out.fr (hf.mono (fun _ _ h => h.elim)))
                  have HFg := hid (HFf.out.trans hf)
                  clear hf
                  go_wp2_with fail
                  refine (samei_any _ (RdI.of HKg.out.l.1 (by omega)) (RdI.of HKg.out.ls.1 (by omega))).mono ?_
                  rintro r w22 ⟨rfl, hf⟩
                  have HFh := hid (HFg.out.trans hf)
                  clear hf
                  go_wp2_with fail
                  go_ret
                  exact ⟨rfl, HFh.out⟩
end Go.Proofs.Ytodhamgcoflhpaa.M
