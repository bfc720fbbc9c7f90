/- ChainPrunes: the walk. -/
import Derived.Test.YtcmniejffpoinaaCOlder
import Derived.Test.YtcmniejffpoinaaCUnl
import Derived.Laws.AppendOwnNone
namespace Go.Proofs.Ytcmniejffpoinaa
open Go.RowKit

/-- A nil slice is empty. -/
def Nz (v : Value) : Prop := ∀ n cap, v = .slice none n cap → n = 0 ∧ cap = 0

theorem held2_any (v : Value) (xs : List Int) (w : World) (h : Is w v xs) (hcp : Cp v) (hnz : Nz v) :
    Calls Try.prog 16 #[v] w fun e w' => ∃ u, e = .returned u ∧ (∀ W, Is W v xs → Is W u (xs.take 200)) ∧ Cp u ∧ Nz u ∧ w' = w := by
  obtain ⟨ao, cap, rfl, hlen, hfit, hcell⟩ := id h
  have hcap := hcp _ _ _ rfl
  have HCp := hid hcp
  have HNz := hid hnz
  have HC := hid hcell
  clear hfit hcell h hcp hnz
  by_cases h2 : 200 < xs.length
  · have t1 : (200 : Int) < (xs.length : Int) := by omega
    have t2 : (200 : Int) ≤ (cap : Int) := by omega
    obtain ⟨b, off, rfl, _⟩ := HC.out (by rintro rfl; simp at h2)
    go_enter Try.func16, Try.ntmps16
    go_wp2_with fail
    go_ret
    refine ⟨_, rfl, fun W hW => ?_, fun ao n c e => ?_, fun n c e => ?_, rfl⟩
    · obtain ⟨ao', cap', e, _, hf, hck⟩ := hW
      simp only [Value.slice.injEq] at e
      obtain ⟨rfl, _, rfl⟩ := e
      obtain ⟨b', off', e, hck⟩ := hck (by rintro rfl; simp at h2)
      cases e
      refine ⟨some ⟨b, off, none⟩, cap, ?_, ?_, fun x hx => hf x (List.take_subset _ _ hx), fun _ => ⟨b, off, rfl, fun i hi => ?_⟩⟩
      · rw [List.length_take, Nat.min_eq_left (by omega)]
        rfl
      · rw [List.length_take]
        omega
      · rw [List.length_take] at hi
        have e : (xs.take 200).getD i 0 = xs.getD i 0 := by simp [List.getD, show i < 200 by omega]
        rw [e]
        exact hck i (by omega)
    · have e' : (Value.slice (some ⟨b, off, none⟩) 200 cap) = .slice ao n c := e
      simp only [Value.slice.injEq] at e'
      omega
    · have e' : (Value.slice (some ⟨b, off, none⟩) 200 cap) = .slice none n c := e
      simp at e'
  · have t1 : ¬ (200 : Int) < (xs.length : Int) := by omega
    have e0 : xs.take 200 = xs := List.take_of_length_le (by omega)
    rw [e0]
    clear e0 h2
    go_enter Try.func16, Try.ntmps16
    go_wp2_with fail
    go_ret
    exact ⟨_, rfl, fun W hW => hW, HCp.out, HNz.out, rfl⟩

theorem append_is {w : World} {ops : Array Oper} {rest : List Oper} {o : Oper} {a : Act} {Q : Exit → Act → World → Prop} (hgd : o.guard = none) (s x : Operand)
    (ho : o.op = .call { callee := .builtin .append, args := #[s, x], argTypes := #[38, 38] })
    (base : Nat) (v : Value) (n : Nat) (vs : List Value) (hs : a.eval s = v) (hown : w.ownsRow base 3 1 v n vs)
    (u : Value) (ys : List Int) (hx : a.eval x = u) (hu : Is w u ys) (hnz : Nz u) (hb : n + ys.length ≤ 20000) (hbase : base ≤ w.heap.size)
    (h : ∀ v' w', w'.ownsRow base 3 1 v' (n + ys.length) (vs ++ iv ys) → w.grownBy w' v.ownBlock → wpList Try.prog ops Q rest (a.put o.dst v') w') :
    wpList Try.prog ops Q (o :: rest) a w := by
  obtain ⟨i0, hi, hz0, hz1, hz2⟩ := info_parts Try.info_int
  obtain ⟨ao, cap, rfl, hlen, hfit, hcell⟩ := hu
  match ao with
  | none =>
    obtain ⟨h0, rfl⟩ := hnz _ _ rfl
    have hy : ys = [] := List.eq_nil_of_length_eq_zero h0
    subst hy
    refine wpList_append_own_none hgd s x 38 ho base 3 i0 1 Try.underlying38 hi v n vs hs hown hx ?_
    have := h v w (by simpa [iv] using hown) ⟨rfl, rfl, rfl, Nat.le_refl _, fun _ _ _ => rfl⟩
    exact this
  | some ad =>
    refine wpList_append_own_at w hgd s x 38 ho base 3 i0 (.int .i64 0) 1 8 Try.underlying38 hi hz0 hz1 hz2 rfl (by decide) v n vs hs hown ad ys.length cap (iv ys) hx (by rw [iv_length, Nat.mul_one]) ?_ (iv_one ys) (by unfold maxLen; omega) (by omega) hbase ?_
    · intro j z hz
      have hj : j < ys.length := by
        rcases Nat.lt_or_ge j ys.length with h | h
        · exact h
        · rw [List.getElem?_eq_none (by rw [iv_length]; exact h)] at hz
          cases hz
      obtain ⟨b, off, e, hck⟩ := hcell (by intro e; subst e; simp at hj)
      cases e
      rw [Addr.add_lit, hck j hj, ← hz, iv_get ys j hj]
    · intro v' w' h1 h2 _ _
      exact h v' w' h1 h2
theorem int3_own (w : World) (a b c : Int) : (w.alloc (.cells #[.int .i64 a, .int .i64 b, .int .i64 c] 3)).ownsRow w.heap.size 3 1 (.slice (some ⟨w.heap.size, 0, none⟩) 3 3) 3 (iv [a, b, c]) := by
  have h := World.ownsRow_lit (size := 1) (e := 3) w #[.int .i64 a, .int .i64 b, .int .i64 c] 3 (Nat.le_refl _) (by unfold maxLen; omega) (by simp)
  simpa [iv] using h

set_option maxHeartbeats 16000000 in
set_option maxRecDepth 100000 in
theorem chainPrunes_walk {sv lv : Value} {ss : List St} {xs : List Int} (w : World) (hS : Sc w sv ss) (hI : Is w lv xs) (hcp : Cp lv) (hnz : Nz lv) :
    Calls Try.prog 4 #[sv, lv] w fun r w' => r = .returned (.bool true) ∧ Fr w w' (fun _ => False) := by
  have HS := hid hS
  obtain ⟨so, sc, rfl, _⟩ := hS
  have HIs := hid hI
  have HHd := hid (fun (W : World) (hf : Fr w W (fun _ => False)) => held2_any lv xs W (hI.fr hf) hcp hnz)
  clear hI hcp hnz
  go_enter Try.func4, Try.ntmps4
  go_wp2_with fail
  refine (known_any _).mono ?_
  rintro r w1 ⟨rfl, hf1⟩
  have HF1 := hid hf1
  clear hf1
  go_wp2_with fail
  refine (open_any _ (HS.out.fr HF1.out)).mono ?_
  rintro r w2 ⟨rfl, hf2, hrl, v, hc2⟩
  have HF2 := hid (HF1.out.trans hf2)
  have HC2 := hid hc2
  have hB1 := HF1.out.size
  clear HS hf2 hc2
  generalize runL ss = L at *
  generalize w1.heap.size = B at *
  go_wp2_with fail
  refine (HHd.out _ HF2.out).mono ?_
  rintro r w2' ⟨u, rfl, hu, hcu, hnu, rfl⟩
  have HIu := hid (hu w HIs.out)
  have HCu := hid hcu
  have HNu := hid hnu
  have hul : (xs.take 200).length ≤ 200 := by rw [List.length_take]; omega
  clear hu hcu hnu HHd HIs
  generalize xs.take 200 = ys at *
  obtain ⟨uo, uc, e0, _⟩ := id HIu.out
  subst e0
  go_wp2_with fail
  refine (newest_any _ HC2.out).mono ?_
  rintro r w3 ⟨rfl, hf3⟩
  have HC3 := hid (HC2.out.step hf3)
  have HF3 := hid (HF2.out.trans hf3)
  clear hf3 HC2 HF2
  have HG := hid HC3.out.good
  obtain ⟨n0, n1, _, _⟩ := nw_fits HG.out
  have HAtP := hid (ats_congr (xs := [(nw L).e, (nw L).e + 1, 1125899906842624] ++ ys) (L := L) (L' := pruneL ys L) (fun h hh => by
    refine pruneL_at HG.out ?_
    rw [List.mem_append] at hh
    rcases hh with hh | hh
    · right
      simp only [List.mem_cons, List.not_mem_nil, or_false] at hh
      rcases hh with rfl | rfl | rfl <;> omega
    · exact Or.inl hh))
  have HEps := hid (show ∀ e ∈ eps (pruneL ys L), e ≤ (nw L).e from by
    intro e he
    simp only [eps, List.mem_map] at he
    obtain ⟨x, hx, rfl⟩ := he
    exact HG.out.last ((pruneL_sub ys L).subset hx))
  generalize hye : (nw L).e = ye at *
  generalize hyt : (nw L).t = yt at *
  generalize hyv : (nw L).v = yv at *
  go_wp2_with (at_builtin; go_must (refine append_is rfl (.tmp 33) (.tmp 34) rfl w3.heap.size _ 3 _ rfl (int3_own w3 ye (ye + 1) 1125899906842624) _ ys rfl (HIu.out.fr (HF3.out.alloc _)) HNu.out ?c1 ?c2 ?_))
  case c1 => omega
  case c2 => first | omega | (simp; done) | (simp; omega)
  intro u9 w4 hown4 hgrow4
  have hF34 : Fr w3 w4 (fun _ => False) := (alloc_fr w3 (.cells #[.int .i64 ye, .int .i64 (ye + 1), .int .i64 1125899906842624] 3) (fun _ => False)).trans2 ((Fr.refl _ (fun k => k = w3.heap.size)).grown hgrow4 (fun k _ e => by simpa [Value.ownBlock] using e.symm)) (fun k hk e => by omega)
  have HC4 := hid (HC3.out.step hF34)
  have HF4 := hid (HF3.out.trans hF34)
  have hlA : ([ye, ye + 1, 1125899906842624] ++ ys).length ≤ 300 := by rw [List.length_append, List.length_cons, List.length_cons, List.length_cons, List.length_nil]; omega
  have HO4 : Hid (w4.ownsRow w3.heap.size 3 1 u9 ([ye, ye + 1, 1125899906842624] ++ ys).length (iv ([ye, ye + 1, 1125899906842624] ++ ys))) := by
    show w4.ownsRow w3.heap.size 3 1 u9 ([ye, ye + 1, 1125899906842624] ++ ys).length (iv ([ye, ye + 1, 1125899906842624] ++ ys))
    rw [iv_append, List.length_append]
    exact hown4
  have HAf := hid (show ∀ x ∈ [ye, ye + 1, 1125899906842624] ++ ys, fits x from by
    intro x hx
    rw [List.mem_append] at hx
    rcases hx with hx | hx
    · simp only [List.mem_cons, List.not_mem_nil, or_false] at hx
      unfold fits
      rcases hx with rfl | rfl | rfl <;> omega
    · obtain ⟨_, _, _, _, hf, _⟩ := HIu.out
      exact hf x hx)
  clear hown4 hgrow4 hF34 HC3 HF3
  generalize [ye, ye + 1, 1125899906842624] ++ ys = ask at *
  obtain ⟨ao4, cap4, rfl⟩ := own_nil_shape HO4.out
  go_wp2_with fail
  refine (ats_any _ HC4.out (own_is HO4.out HAf.out (by omega)) (by omega)).mono ?_
  rintro r w5 ⟨zv, rfl, ho5, hf5⟩
  have HC5 := hid (HC4.out.step hf5)
  have HF5 := hid (HF4.out.trans hf5)
  have HO5 := hid (own_fr HO4.out hf5 (fun _ _ h => h))
  have HW5 := hid ho5
  have HLw := hid (ats_len L ask)
  have HFt := hid (ats_fits HG.out ask)
  obtain ⟨ao5, cap5, rfl⟩ := own_nil_shape ho5
  clear hf5 ho5 HC4 HF4 HO4
  go_wp2_with fail
  refine (len_any _ HC5.out).mono ?_
  rintro r w6 ⟨rfl, rfl⟩
  go_wp2_with fail
  refine (prune_any _ HC5.out (HIu.out.fr HF5.out)).mono ?_
  rintro r w7 ⟨rfl, v7, hc7, hf7, _⟩
  have HC7 := hid hc7
  have HF7 := hid (HC5.out.frOwn HF5.out hf7 hB1 hB1)
  have HO7 := hid (TI.beside HO5.out HC5.out hf7)
  have HW7 := hid (TI.beside HW5.out HC5.out hf7)
  have HPs := hid ((pruneL_sub ys L).length_le)
  have HFc := hid (prune_fc (held := ys) HG.out)
  have HAg := hid (pruneL_again (held := ys) HG.out)
  have HAl := hid (pruneL_alone (held := ys) (L := L))
  have HGP := hid (pruneL_good (held := ys) HG.out)
  clear hc7 hf7 HC5 HF5 HO5 HW5
  generalize pruneL ys L = P at *
  have hPL := HPs.out
  go_wp2_with fail
  refine (ats_any _ HC7.out (own_is HO7.out HAf.out (by omega)) (by omega)).mono ?_
  rintro r w8 ⟨zv, rfl, ho8, hf8⟩
  rw [HAtP.out] at ho8
  have HC8 := hid (HC7.out.step hf8)
  have HF8 := hid (HF7.out.trans hf8)
  have HW8 := hid (own_fr HW7.out hf8 (fun _ _ h => h))
  have HIz := hid (own_is ho8 HFt.out (by have := HLw.out; omega))
  have HIw := hid (own_is HW8.out HFt.out (by have := HLw.out; omega))
  obtain ⟨ao8, cap8, rfl⟩ := own_nil_shape ho8
  clear hf8 ho8 HC7 HF7 HO7 HW7 HW8
  go_wp2_with fail
  refine (same_true _ _ _ _ HIz.out HIw.out).mono ?_
  rintro r w9 ⟨rfl, hf9⟩
  have HC9 := hid (HC8.out.step hf9)
  have HF9 := hid (HF8.out.trans hf9)
  clear hf9 HIz HIw HC8 HF8
  have t3 : (L.length : Int) - ((L.length : Int) - (P.length : Int)) = (P.length : Int) := by omega
  have t4 : ¬ (L.length : Int) - (P.length : Int) < 0 := by omega
  go_wp2_with fail
  refine (len_any _ HC9.out).mono ?_
  rintro r w10 ⟨rfl, rfl⟩
  go_wp2_with fail
  refine (len_any _ HC9.out).mono ?_
  rintro r w11 ⟨rfl, rfl⟩
  have hfl := fcN_le ys ys.length
  have HUn := hid (fun (W : World) (hf : Fr w W (fun _ => False)) => unlike_any _ ys W (HIu.out.fr hf) HCu.out (by omega))
  have hfc := HFc.out
  generalize fcN ys ys.length = fc at *
  have t5 : ¬ (fc : Int) + 1 < (P.length : Int) := by omega
  go_wp2_with fail
  refine (HUn.out _ HF9.out).mono ?_
  rintro r w12 ⟨rfl, hf12⟩
  have HC12 := hid (HC9.out.step hf12)
  have HF12 := hid (HF9.out.trans hf12)
  clear hf12 HC9 HF9 HUn
  go_wp2_with fail
  refine (epochs_any _ HC12.out).mono ?_
  rintro r w13 ⟨ev, rfl, ho13, hb13⟩
  have HF123 := hid (Fr.ofBelow hb13 : Fr w12 w13 (fun _ => False))
  have HC13 := hid (HC12.out.step HF123.out)
  have HF13 := hid (HF12.out.trans HF123.out)
  have hel : (eps P).length ≤ 2000 := by simp [eps]; omega
  have HEl := hid (show (eps P).length = P.length from by simp [eps])
  have HEs := hid (show ∀ i, i + 1 < (eps P).length → (eps P).getD i 0 < (eps P).getD (i + 1) 0 from by
    intro i hi
    have h1 := HEl.out
    have := rise_get HGP.out.2 (show i < i + 1 by omega) (by omega)
    simpa [eps, List.getD, show i < P.length by omega, show i + 1 < P.length by omega] using this)
  have HI13 := hid (own_is ho13 (fun y hy => by
    have h1 := hy
    simp only [eps, List.mem_map] at h1
    obtain ⟨z, hz, rfl⟩ := h1
    have := HGP.out.1 z hz
    have h1 := this.1
    have h2 := this.2.1
    unfold fits
    omega) (by omega))
  obtain ⟨eo, ec, rfl⟩ := own_nil_shape ho13
  clear ho13 hb13 HF123 HC12 HF12
  generalize hEP : eps P = es at *
  go_wp2_with fail
  go_loopg [14] es.length (fun g s14 wx => ∃ i : Nat, s14 = .int .i64 (i : Int) ∧ i + g = es.length ∧ Hid (Fr w13 wx (fun _ => False)))
  case atStart => exact ⟨0, rfl, by omega, Fr.refl _ _⟩
  case round =>
    obtain ⟨i, rfl, hg, HFx⟩ := hrel
    cases gk with
    | zero =>
      have t6 : ¬ (i : Int) < (es.length : Int) := by omega
      clear hg
      have HC14 := hid (HC13.out.step HFx.out)
      have HF14 := hid (HF13.out.trans HFx.out)
      clear HC13 HF13
      by_cases h1 : es.length = 1
      · have hpt : (nw P).t = true := HAl.out (HEl.out.symm.trans h1)
        have t7 : ((es.length : Int) == 1) = true := by simp; omega
        clear h1
        go_wp2_with fail
        refine (newest_any _ HC14.out).mono ?_
        rintro r w15 ⟨rfl, hf15⟩
        rw [hpt]
        have HC15 := hid (HC14.out.step hf15)
        have HF15 := hid (HF14.out.trans hf15)
        clear hf15 HC14 HF14
        go_wp2_with fail
        refine (prune_any _ HC15.out (HIu.out.fr HF15.out)).mono ?_
        rintro r w16 ⟨rfl, v16, hc16, hf16, _⟩
        have HF16 := hid (HC15.out.frOwn HF15.out hf16 hB1 hB1)
        rw [HAg.out] at hc16 ⊢
        have HC16 := hid hc16
        clear hc16 hf16 HC15 HF15
        go_wp2_with fail
        refine (epochs_any _ HC16.out).mono ?_
        rintro r w17 ⟨ev, rfl, ho17, hb17⟩
        rw [hEP] at ho17
        have HF17 := hid (HF16.out.trans (Fr.ofBelow hb17 : Fr w16 w17 (fun _ => False)))
        have HC17 := hid (HC16.out.step (Fr.ofBelow hb17 : Fr w16 w17 (fun _ => False)))
        obtain ⟨eo2, ec2, rfl⟩ := own_nil_shape ho17
        clear ho17 hb17 HF16 HC16
        go_wp2_with fail
        refine (len_any _ HC17.out).mono ?_
        rintro r w18 ⟨rfl, rfl⟩
        rw [← HEl.out]
        go_wp2_with fail
        go_ret
        exact ⟨rfl, HF17.out⟩
      · have t7 : ((es.length : Int) == 1) = false := by simp; omega
        clear h1
        go_wp2_with fail
        refine (newest_any _ HC14.out).mono ?_
        rintro r w15 ⟨rfl, hf15⟩
        have HC15 := hid (HC14.out.step hf15)
        have HF15 := hid (HF14.out.trans hf15)
        clear hf15 HC14 HF14
        go_wp2_with fail
        refine (prune_any _ HC15.out (HIu.out.fr HF15.out)).mono ?_
        rintro r w16 ⟨rfl, v16, hc16, hf16, _⟩
        have HF16 := hid (HC15.out.frOwn HF15.out hf16 hB1 hB1)
        rw [HAg.out] at hc16 ⊢
        have HC16 := hid hc16
        clear hc16 hf16 HC15 HF15
        go_wp2_with fail
        refine (epochs_any _ HC16.out).mono ?_
        rintro r w17 ⟨ev, rfl, ho17, hb17⟩
        rw [hEP] at ho17
        have HF17 := hid (HF16.out.trans (Fr.ofBelow hb17 : Fr w16 w17 (fun _ => False)))
        have HC17 := hid (HC16.out.step (Fr.ofBelow hb17 : Fr w16 w17 (fun _ => False)))
        obtain ⟨eo2, ec2, rfl⟩ := own_nil_shape ho17
        clear ho17 hb17 HF16 HC16
        go_wp2_with fail
        refine (len_any _ HC17.out).mono ?_
        rintro r w18 ⟨rfl, rfl⟩
        rw [← HEl.out]
        go_wp2_with fail
        go_ret
        exact ⟨rfl, HF17.out⟩
    | succ g =>
      have hi : i < es.length := by omega
      have t6 : (i : Int) < (es.length : Int) := by omega
      have HGg := hid hg
      obtain ⟨ao', cap', e, _, _, hc1⟩ := HI13.out.fr HFx.out
      obtain ⟨b, off, e2, k1⟩ := hc1 (by intro e; rw [e] at hi; simp at hi)
      cases e
      cases e2
      have c1 := k1 i hi
      have hle := HEps.out (es.getD i 0) (by simp [List.getD, hi])
      clear hc1 hg
      by_cases hi2 : i + 1 < es.length
      · have c2 := k1 (i + 1) hi2
        have hlt := HEs.out i hi2
        have t7 : decide ((i : Int) < (es.length : Int) - 1) = true := by simp; omega
        have t7' : (i : Int) + 1 < (es.length : Int) := by omega
        clear k1 hi hi2
        generalize es.getD i 0 = y1 at *
        generalize es.getD (i + 1) 0 = y2 at *
        have t8 : decide (ye < y1) = false := by simp; omega
        have t9 : decide (y2 ≤ y1) = false := by simp; omega
        go_wp2_with fail
        go_quiet (fail)
        go_wp2_with fail
        go_roundg g
        case measure => omega
        case rel => exact ⟨i + 1, by go_num, by have := HGg.out; omega, by first | exact HFx.out.drewN _ | exact HFx.out.drew⟩
      · have t7 : decide ((i : Int) < (es.length : Int) - 1) = false := by simp; omega
        clear k1 hi hi2
        generalize es.getD i 0 = y1 at *
        have t8 : decide (ye < y1) = false := by simp; omega
        go_wp2_with fail
        go_quiet (fail)
        go_wp2_with fail
        go_roundg g
        case measure => omega
        case rel => exact ⟨i + 1, by go_num, by have := HGg.out; omega, by first | exact HFx.out.drewN _ | exact HFx.out.drew⟩
end Go.Proofs.Ytcmniejffpoinaa
