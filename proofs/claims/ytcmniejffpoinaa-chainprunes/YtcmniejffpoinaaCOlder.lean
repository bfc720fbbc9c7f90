/- ChainOlder: the walk. -/
import Derived.Test.YtcmniejffpoinaaCOpen
import Derived.Test.YtcmniejffpoinaaCAts
import Derived.Test.YtcmniejffpoinaaCSeq
import Derived.Test.YtcmniejffpoinaaCOlderP
namespace Go.Proofs.Ytcmniejffpoinaa
open Go.RowKit

theorem pre_snoc (xs : List Int) (i : Nat) (hi : i < xs.length) : (xs.take (i + 1)).map (· - 1) = (xs.take i).map (· - 1) ++ [xs.getD i 0 - 1] := by
  rw [take_snoc xs i hi]
  simp
theorem int3_new (w : World) (a b c : Value) (e : TypeId) : ∀ (j : Nat) (u : Value), [a, b, c][j]? = some u → (w.alloc (.cells #[a, b, c] e)).cell? ((⟨w.heap.size, 0, none⟩ : Addr).add j) = some u := three_new w a b c e
/-- A row of numbers beside a chain that is changed. -/
theorem TI.beside {w wx wy : World} {base B : Nat} {u v : Value} {zs : List Int} {L : List Vn} (h : wx.ownsRow w.heap.size 3 1 u zs.length (iv zs)) (hc : Ch wx base B v L) (hf : Fr wx wy (fun k => k = B ∨ v.ownBlock = some k)) : wy.ownsRow w.heap.size 3 1 u zs.length (iv zs) := by
  refine own_fr h hf (fun k hk e => ?_)
  rcases e with e | e
  · subst e
    exact own_ne h hc.cell (by decide) hk
  · exact own_apart hc.own h (by decide) k e hk

set_option maxHeartbeats 16000000 in
set_option maxRecDepth 100000 in
theorem chainOlder_walk {sv : Value} {ss : List St} (up x : Int) (kill : Bool) (hx : fits x) (w : World) (hS : Sc w sv ss) :
    Calls Try.prog 5 #[sv, .int .i64 up, .int .i64 x, .bool kill] w fun r w' => r = .returned (.bool true) ∧ Fr w w' (fun _ => False) := by
  obtain ⟨i0, hi0, hz0, hz1, hz2⟩ := info_parts Try.info_int
  have HS := hid hS
  obtain ⟨so, sc, rfl, _⟩ := hS
  go_enter Try.func5, Try.ntmps5
  go_wp2_with fail
  refine (known_any _).mono ?_
  rintro r w1 ⟨rfl, hf1⟩
  have HF1 := hid hf1
  clear hf1
  go_wp2_with fail
  refine (open_any _ (HS.out.fr HF1.out)).mono ?_
  rintro r w2 ⟨rfl, hf2, hrl, v, hc2⟩
  have HF2 := hid (HF1.out.trans hf2)
  have HC2 := hid hc2
  have hB1 := HF1.out.size
  clear HS hf2 hc2
  generalize hL : runL ss = L at *
  generalize w1.heap.size = B at *
  go_wp2_with fail
  refine (epochs_any _ HC2.out).mono ?_
  rintro r w3 ⟨u, rfl, ho3, hb3⟩
  have HF23 := hid (Fr.ofBelow hb3 : Fr w2 w3 (fun _ => False))
  have HC3 := hid (HC2.out.step HF23.out)
  have HF3 := hid (HF2.out.trans HF23.out)
  have HI3 := hid (own_is ho3 (fun y hy => by
    simp only [eps, List.mem_map] at hy
    obtain ⟨z, hz, rfl⟩ := hy
    have := HC2.out.good.1 z hz
    have h1 := this.1
    have h2 := this.2.1
    unfold fits
    omega) (by simp [eps]; omega))
  obtain ⟨uo, uc, rfl⟩ := own_nil_shape ho3
  clear ho3 hb3 HF23 HC2 HF2
  go_wp2_with fail
  refine (newest_any _ HC3.out).mono ?_
  rintro r w4 ⟨rfl, hf4⟩
  have HC4 := hid (HC3.out.step hf4)
  have HF4 := hid (HF3.out.trans hf4)
  have HI4 := hid (HI3.out.fr hf4)
  clear hf4 HC3 HF3 HI3
  obtain ⟨n0, n1, _, _⟩ := nw_fits HC4.out.good
  go_wp2_with fail
  refine (within_any up 5 (by decide) (by decide) _).mono ?_
  rintro r w5 ⟨rfl, rfl⟩
  obtain ⟨p, hp, hpb⟩ : ∃ p : Nat, up % 5 = (p : Int) ∧ (p : Int) < 5 := ⟨(up % 5).toNat, by omega, by omega⟩
  rw [hp]
  clear hp
  have HEp := hid (show (eps L).length = L.length from by simp [eps])
  have hel : (eps L).length ≤ 2000 := by rw [HEp.out]; exact hrl
  generalize hye : (nw L).e = ye at *
  generalize hyt : (nw L).t = yt at *
  generalize hyv : (nw L).v = yv at *
  obtain ⟨E, hE⟩ : ∃ E : Int, ye + (p : Int) = E := ⟨_, rfl⟩
  have hE0 : 0 ≤ E := by omega
  have hE1 : ye ≤ E := by omega
  have hE2 : E ≤ 1099511627780 := by omega
  go_wp2_with fail
  have HEq := hid hE
  clear hE
  go_loopg [15, 16] (eps L).length (fun g s15 s16 wx => ∃ (i : Nat) (zs : List Int), s16 = .int .i64 (i : Int) ∧ i + g = (eps L).length ∧ zs.length ≤ i ∧ Hid (zs = ((eps L).take i).map (· - 1)) ∧ Hid (TI w5 wx s15 zs))
  case atStart => exact ⟨0, [], rfl, by omega, by simp, rfl, Fr.refl _ _, ⟨rfl, Or.inl ⟨rfl, rfl⟩⟩⟩
  case round =>
    obtain ⟨i, zs, rfl, hg, hzl, HZ, HT⟩ := hrel
    obtain ⟨ao5, cap5, rfl⟩ := own_nil_shape HT.out.own
    have hsz := HT.out.fr.size
    cases gk with
    | zero =>
      have t1 : ¬ (i : Int) < ((eps L).length : Int) := by omega
      have HE := hid (show i = (eps L).length by omega)
      have hzl2 : zs.length ≤ 2000 := by omega
      clear hg
      go_wp2_with (at_builtin; go_must (refine wpList_append_own_at _ rfl (.tmp 57) (.tmp 60) 38 rfl w5.heap.size 3 i0 (.int .i64 0) 1 8 Try.underlying38 hi0 hz0 hz1 hz2 rfl (by decide) _ _ _ rfl (own_fr HT.out.own (alloc_fr wr _ (fun _ => False)) (fun _ _ h => h)) ⟨wr.heap.size, 0, none⟩ 3 3 [.int .i64 (E - 1), .int .i64 0, .int .i64 (-5)] rfl rfl (int3_new _ _ _ _ _) ?d2 ?d3 ?d4 ?d5 ?_))
      case d2 => first | exact ⟨rfl, rfl, rfl⟩ | (intro u hu; simp at hu; rcases hu with rfl | rfl | rfl <;> rfl)
      case d3 => unfold maxLen; omega
      case d4 => omega
      case d5 => first | omega | (simp; omega)
      intro u' w6 hown hgrow _ _
      have HT6 := hid (HT.out.put (news := [E - 1, 0, -5]) (alloc_fr wr _ _) hgrow hown)
      have HAsk := hid (show zs ++ [E - 1, 0, -5] = askL L E from by
        have := HZ.out
        rw [HE.out, List.take_length] at this
        rw [this]
        rfl)
      rw [HAsk.out] at HT6
      have hask : (askL L E).length ≤ 3000 := by rw [← HAsk.out]; simp; omega
      clear hown hgrow HZ HT HE HAsk
      have HAf := hid (ask_fits HC4.out.good (E := E) hE0 (by omega))
      have HAl := hid (fun (h1 : 1 ≤ E) => ask_lt HC4.out.good h1 (by rw [hye]; exact hE1))
      obtain ⟨ao6, cap6, rfl⟩ := own_nil_shape HT6.out.own
      have HC6 := hid (HC4.out.step HT6.out.fr)
      have HF6 := hid (HF4.out.trans HT6.out.fr)
      have HI6 := hid (own_is HT6.out.own HAf.out (by omega))
      have HO6 := hid HT6.out.own
      have HGL := hid HC4.out.good
      have HOk := hid (fun (h1 : 1 ≤ E) (h2 : E ≤ 1099511627776) (ht : kill = true → yt = true) => old_ok (kill := kill) (v := x) HC4.out.good hx h1 h2 (by rw [hye]; exact hE1) (by rw [hyt]; exact ht))
      have HGo := hid (fun (h1 : 1 ≤ E) (h2 : E ≤ 1099511627776) (ht : yt = false) => old_gone (v := x) (L := L) h1 h2 (by rw [hye]; exact hE1) (by rw [hyt]; exact ht))
      have HAr := hid (fun (h : E < 1 ∨ 1099511627776 < E) => old_arg (L := L) kill h)
      rw [hye] at HOk
      clear HI4 HC4 HF4 HT6
      generalize askL L E = ask at *
      go_wp2_with fail
      refine (ats_any _ HC6.out HI6.out (by omega)).mono ?_
      rintro r w7 ⟨zv, rfl, ho7, hf7⟩
      have HC7 := hid (HC6.out.step hf7)
      have HF7 := hid (HF6.out.trans hf7)
      have HOA7 := hid (own_fr HO6.out hf7 (fun _ _ h => h))
      have HOW7 := hid ho7
      have HLw := hid (ats_len L ask)
      obtain ⟨ao7, cap7, rfl⟩ := own_nil_shape ho7
      clear hf7 ho7 HC6 HF6 HI6 HO6
      go_wp2_with fail
      refine (len_any _ HC7.out).mono ?_
      rintro r w8 ⟨rfl, rfl⟩
      have HPut := hid (put_any E x w8 HC7.out hx (by omega) (Nat.le_of_lt HC7.out.lt))
      have HKill := hid (kill_any E w8 HC7.out (by omega) (Nat.le_of_lt HC7.out.lt))
      cases kill with
      | true =>
        go_wp2_with fail
        refine HKill.out.mono ?_
        rintro r w9 ⟨rfl, v9, hc9, hf9, _⟩
        have HC9 : Hid (Ch w9 B B v9 (oldL L E x true)) := hc9
        have HF9 := hid (HC7.out.frOwn HF7.out hf9 hB1 hB1)
        have HOA9 := hid (TI.beside HOA7.out HC7.out hf9)
        have HOW9 := hid (TI.beside HOW7.out HC7.out hf9)
        clear hc9 hf9 HPut HKill HC7 HF7 HOA7 HOW7
        have HEr : Hid (gone L E = oldE L E true) := rfl
        have HNr : Hid (killN L E = oldN L E true) := rfl
        generalize gone L E = er at *
        generalize killN L E = nr at *
        by_cases a1 : E < 1
        · have h1 := HAr.out (Or.inl a1)
          have h2 := HEr.out
          rw [h1] at h2
          subst h2
          clear HOk HGo HAr HEr HNr
          go_wp2_with fail
          go_ret
          exact ⟨rfl, HF9.out⟩
        · by_cases a2 : 1099511627776 < E
          · have h1 := HAr.out (Or.inr a2)
            have h2 := HEr.out
            rw [h1] at h2
            subst h2
            clear HOk HGo HAr HEr HNr
            go_wp2_with fail
            go_ret
            exact ⟨rfl, HF9.out⟩
          · cases hyt1 : yt with
            | false =>
              rw [hyt1] at hyt
              obtain ⟨o1, o2⟩ := HGo.out (by omega) (by omega) hyt1
              have h2 := HEr.out
              rw [o1] at h2
              subst h2
              rw [o2] at HC9
              clear o1 o2 HOk HGo HAr HEr HNr
              go_wp2_with fail
              refine (ats_any _ HC9.out (own_is HOA9.out HAf.out (by omega)) (by omega)).mono ?_
              rintro r w10 ⟨zv, rfl, ho10, hf10⟩
              have HC10 := hid (HC9.out.step hf10)
              have HF10 := hid (HF9.out.trans hf10)
              have HOW10 := hid (own_fr HOW9.out hf10 (fun _ _ h => h))
              have HFt := hid (ats_fits HGL.out ask)
              have HIz := hid (own_is ho10 HFt.out (by have := HLw.out; omega))
              have HIw := hid (own_is HOW10.out HFt.out (by have := HLw.out; omega))
              obtain ⟨ao10, cap10, rfl⟩ := own_nil_shape ho10
              clear hf10 ho10 HC9 HF9 HOA9 HOW9 HOW10
              go_wp2_with fail
              refine (same_true _ _ _ _ HIz.out HIw.out).mono ?_
              rintro r w11 ⟨rfl, hf11⟩
              have HC11 := hid (HC10.out.step hf11)
              have HF11 := hid (HF10.out.trans hf11)
              clear hf11 HIz HIw HC10 HF10
              go_wp2_with fail
              refine (len_any _ HC11.out).mono ?_
              rintro r w12 ⟨rfl, rfl⟩
              go_wp2_with fail
              go_ret
              exact ⟨rfl, HF11.out⟩
            | true =>
              rw [hyt1] at hyt
              obtain ⟨o1, o2, o3, o4, o5⟩ := HOk.out (by omega) (by omega) (fun _ => hyt1)
              have h2 := HEr.out
              rw [o1] at h2
              subst h2
              have HLen : Hid (((oldL L E x true).length : Int) = (L.length : Int) + nr) := by show _ = _; rw [HNr.out]; exact o3
              have HNw9 : Hid (nw (oldL L E x true) = ⟨E, false, 0⟩) := o4
              have HAts := hid (ats_congr (xs := ask) (L := L) (L' := oldL L E x true) (fun h hh => by rw [o5 h (HAl.out (by omega) h hh)]))
              have HAtE : Hid (atL (oldL L E x true) E = ⟨E, false, 0⟩) := by
                show _ = _
                rw [atL_new HC9.out.good (by rw [HNw9.out]; exact Int.le_refl _), HNw9.out]
              have HFt := hid (ats_fits HGL.out ask)
              have HN2 := hid (HNr.out.trans o2)
              clear o1 o2 o3 o4 o5 HOk HGo HAr HEr HNr HAl
              generalize oldL L E x true = L' at *
              by_cases hEy : E = ye
              · have hn : nr = 0 := by rw [HN2.out, if_pos hEy]
                have hl0 : (L.length : Int) + 0 = (L.length : Int) := by omega
                have tE : (E == ye) = true := by simpa using hEy
                clear hEy HN2
                subst hn
                rw [hl0] at HLen
                clear hl0
                go_wp2_with fail
                refine (at_any E _ HC9.out).mono ?_
                rintro r w10 ⟨rfl, hf10⟩
                rw [HAtE.out]
                have HC10 := hid (HC9.out.step hf10)
                have HF10 := hid (HF9.out.trans hf10)
                have HOA10 := hid (own_fr HOA9.out hf10 (fun _ _ h => h))
                have HOW10 := hid (own_fr HOW9.out hf10 (fun _ _ h => h))
                clear hf10 HC9 HF9 HOA9 HOW9 HAtE
                go_wp2_with fail
                refine (newest_any _ HC10.out).mono ?_
                rintro r w11 ⟨rfl, hf11⟩
                rw [HNw9.out]
                have HC11 := hid (HC10.out.step hf11)
                have HF11 := hid (HF10.out.trans hf11)
                have HOA11 := hid (own_fr HOA10.out hf11 (fun _ _ h => h))
                have HOW11 := hid (own_fr HOW10.out hf11 (fun _ _ h => h))
                clear hf11 HC10 HF10 HOA10 HOW10 HNw9
                go_wp2_with fail
                refine (len_any _ HC11.out).mono ?_
                rintro r w12 ⟨rfl, rfl⟩
                rw [HLen.out]
                go_wp2_with fail
                refine (ats_any _ HC11.out (own_is HOA11.out HAf.out (by omega)) (by omega)).mono ?_
                rintro r w13 ⟨zv, rfl, ho13, hf13⟩
                rw [HAts.out] at ho13
                have HF13 := hid (HF11.out.trans hf13)
                have HOW13 := hid (own_fr HOW11.out hf13 (fun _ _ h => h))
                have HIz := hid (own_is ho13 HFt.out (by have := HLw.out; omega))
                have HIw := hid (own_is HOW13.out HFt.out (by have := HLw.out; omega))
                obtain ⟨ao13, cap13, rfl⟩ := own_nil_shape ho13
                clear hf13 ho13 HC11 HF11 HOA11 HOW11 HOW13
                go_wp2_with fail
                refine (same_true _ _ _ _ HIz.out HIw.out).mono ?_
                rintro r w14 ⟨rfl, hf14⟩
                have HF14 := hid (HF13.out.trans hf14)
                clear hf14 HIz HIw HF13
                go_wp2_with fail
                go_ret
                exact ⟨rfl, HF14.out⟩
              · have hn : nr = 1 := by rw [HN2.out, if_neg hEy]
                have hl0 : (L.length : Int) + 1 = (L.length : Int) + 1 := rfl
                have tE : (E == ye) = false := by simpa using hEy
                clear hEy HN2
                subst hn
                clear hl0
                go_wp2_with fail
                refine (at_any E _ HC9.out).mono ?_
                rintro r w10 ⟨rfl, hf10⟩
                rw [HAtE.out]
                have HC10 := hid (HC9.out.step hf10)
                have HF10 := hid (HF9.out.trans hf10)
                have HOA10 := hid (own_fr HOA9.out hf10 (fun _ _ h => h))
                have HOW10 := hid (own_fr HOW9.out hf10 (fun _ _ h => h))
                clear hf10 HC9 HF9 HOA9 HOW9 HAtE
                go_wp2_with fail
                refine (newest_any _ HC10.out).mono ?_
                rintro r w11 ⟨rfl, hf11⟩
                rw [HNw9.out]
                have HC11 := hid (HC10.out.step hf11)
                have HF11 := hid (HF10.out.trans hf11)
                have HOA11 := hid (own_fr HOA10.out hf11 (fun _ _ h => h))
                have HOW11 := hid (own_fr HOW10.out hf11 (fun _ _ h => h))
                clear hf11 HC10 HF10 HOA10 HOW10 HNw9
                go_wp2_with fail
                refine (len_any _ HC11.out).mono ?_
                rintro r w12 ⟨rfl, rfl⟩
                rw [HLen.out]
                go_wp2_with fail
                refine (ats_any _ HC11.out (own_is HOA11.out HAf.out (by omega)) (by omega)).mono ?_
                rintro r w13 ⟨zv, rfl, ho13, hf13⟩
                rw [HAts.out] at ho13
                have HF13 := hid (HF11.out.trans hf13)
                have HOW13 := hid (own_fr HOW11.out hf13 (fun _ _ h => h))
                have HIz := hid (own_is ho13 HFt.out (by have := HLw.out; omega))
                have HIw := hid (own_is HOW13.out HFt.out (by have := HLw.out; omega))
                obtain ⟨ao13, cap13, rfl⟩ := own_nil_shape ho13
                clear hf13 ho13 HC11 HF11 HOA11 HOW11 HOW13
                go_wp2_with fail
                refine (same_true _ _ _ _ HIz.out HIw.out).mono ?_
                rintro r w14 ⟨rfl, hf14⟩
                have HF14 := hid (HF13.out.trans hf14)
                clear hf14 HIz HIw HF13
                go_wp2_with fail
                go_ret
                exact ⟨rfl, HF14.out⟩
      | false =>
        go_wp2_with fail
        refine HPut.out.mono ?_
        rintro r w9 ⟨rfl, v9, hc9, hf9, _⟩
        have HC9 : Hid (Ch w9 B B v9 (oldL L E x false)) := hc9
        have HF9 := hid (HC7.out.frOwn HF7.out hf9 hB1 hB1)
        have HOA9 := hid (TI.beside HOA7.out HC7.out hf9)
        have HOW9 := hid (TI.beside HOW7.out HC7.out hf9)
        clear hc9 hf9 HPut HKill HC7 HF7 HOA7 HOW7
        have HEr : Hid (wrong L E = oldE L E false) := rfl
        have HNr : Hid (putN L E = oldN L E false) := rfl
        generalize wrong L E = er at *
        generalize putN L E = nr at *
        by_cases a1 : E < 1
        · have h1 := HAr.out (Or.inl a1)
          have h2 := HEr.out
          rw [h1] at h2
          subst h2
          clear HOk HGo HAr HEr HNr
          go_wp2_with fail
          go_ret
          exact ⟨rfl, HF9.out⟩
        · by_cases a2 : 1099511627776 < E
          · have h1 := HAr.out (Or.inr a2)
            have h2 := HEr.out
            rw [h1] at h2
            subst h2
            clear HOk HGo HAr HEr HNr
            go_wp2_with fail
            go_ret
            exact ⟨rfl, HF9.out⟩
          · obtain ⟨o1, o2, o3, o4, o5⟩ := HOk.out (by omega) (by omega) (fun h => by cases h)
            have h2 := HEr.out
            rw [o1] at h2
            subst h2
            have HLen : Hid (((oldL L E x false).length : Int) = (L.length : Int) + nr) := by show _ = _; rw [HNr.out]; exact o3
            have HNw9 : Hid (nw (oldL L E x false) = ⟨E, true, x⟩) := o4
            have HAts := hid (ats_congr (xs := ask) (L := L) (L' := oldL L E x false) (fun h hh => by rw [o5 h (HAl.out (by omega) h hh)]))
            have HAtE : Hid (atL (oldL L E x false) E = ⟨E, true, x⟩) := by
              show _ = _
              rw [atL_new HC9.out.good (by rw [HNw9.out]; exact Int.le_refl _), HNw9.out]
            have HFt := hid (ats_fits HGL.out ask)
            have HN2 := hid (HNr.out.trans o2)
            clear o1 o2 o3 o4 o5 HOk HGo HAr HEr HNr HAl
            generalize oldL L E x false = L' at *
            by_cases hEy : E = ye
            · have hn : nr = 0 := by rw [HN2.out, if_pos hEy]
              have hl0 : (L.length : Int) + 0 = (L.length : Int) := by omega
              have tE : (E == ye) = true := by simpa using hEy
              clear hEy HN2
              subst hn
              rw [hl0] at HLen
              clear hl0
              go_wp2_with fail
              refine (at_any E _ HC9.out).mono ?_
              rintro r w10 ⟨rfl, hf10⟩
              rw [HAtE.out]
              have HC10 := hid (HC9.out.step hf10)
              have HF10 := hid (HF9.out.trans hf10)
              have HOA10 := hid (own_fr HOA9.out hf10 (fun _ _ h => h))
              have HOW10 := hid (own_fr HOW9.out hf10 (fun _ _ h => h))
              clear hf10 HC9 HF9 HOA9 HOW9 HAtE
              go_wp2_with fail
              refine (newest_any _ HC10.out).mono ?_
              rintro r w11 ⟨rfl, hf11⟩
              rw [HNw9.out]
              have HC11 := hid (HC10.out.step hf11)
              have HF11 := hid (HF10.out.trans hf11)
              have HOA11 := hid (own_fr HOA10.out hf11 (fun _ _ h => h))
              have HOW11 := hid (own_fr HOW10.out hf11 (fun _ _ h => h))
              clear hf11 HC10 HF10 HOA10 HOW10 HNw9
              go_wp2_with fail
              refine (len_any _ HC11.out).mono ?_
              rintro r w12 ⟨rfl, rfl⟩
              rw [HLen.out]
              go_wp2_with fail
              refine (ats_any _ HC11.out (own_is HOA11.out HAf.out (by omega)) (by omega)).mono ?_
              rintro r w13 ⟨zv, rfl, ho13, hf13⟩
              rw [HAts.out] at ho13
              have HF13 := hid (HF11.out.trans hf13)
              have HOW13 := hid (own_fr HOW11.out hf13 (fun _ _ h => h))
              have HIz := hid (own_is ho13 HFt.out (by have := HLw.out; omega))
              have HIw := hid (own_is HOW13.out HFt.out (by have := HLw.out; omega))
              obtain ⟨ao13, cap13, rfl⟩ := own_nil_shape ho13
              clear hf13 ho13 HC11 HF11 HOA11 HOW11 HOW13
              go_wp2_with fail
              refine (same_true _ _ _ _ HIz.out HIw.out).mono ?_
              rintro r w14 ⟨rfl, hf14⟩
              have HF14 := hid (HF13.out.trans hf14)
              clear hf14 HIz HIw HF13
              go_wp2_with fail
              go_ret
              exact ⟨rfl, HF14.out⟩
            · have hn : nr = 1 := by rw [HN2.out, if_neg hEy]
              have hl0 : (L.length : Int) + 1 = (L.length : Int) + 1 := rfl
              have tE : (E == ye) = false := by simpa using hEy
              clear hEy HN2
              subst hn
              clear hl0
              go_wp2_with fail
              refine (at_any E _ HC9.out).mono ?_
              rintro r w10 ⟨rfl, hf10⟩
              rw [HAtE.out]
              have HC10 := hid (HC9.out.step hf10)
              have HF10 := hid (HF9.out.trans hf10)
              have HOA10 := hid (own_fr HOA9.out hf10 (fun _ _ h => h))
              have HOW10 := hid (own_fr HOW9.out hf10 (fun _ _ h => h))
              clear hf10 HC9 HF9 HOA9 HOW9 HAtE
              go_wp2_with fail
              refine (newest_any _ HC10.out).mono ?_
              rintro r w11 ⟨rfl, hf11⟩
              rw [HNw9.out]
              have HC11 := hid (HC10.out.step hf11)
              have HF11 := hid (HF10.out.trans hf11)
              have HOA11 := hid (own_fr HOA10.out hf11 (fun _ _ h => h))
              have HOW11 := hid (own_fr HOW10.out hf11 (fun _ _ h => h))
              clear hf11 HC10 HF10 HOA10 HOW10 HNw9
              go_wp2_with fail
              refine (len_any _ HC11.out).mono ?_
              rintro r w12 ⟨rfl, rfl⟩
              rw [HLen.out]
              go_wp2_with fail
              refine (ats_any _ HC11.out (own_is HOA11.out HAf.out (by omega)) (by omega)).mono ?_
              rintro r w13 ⟨zv, rfl, ho13, hf13⟩
              rw [HAts.out] at ho13
              have HF13 := hid (HF11.out.trans hf13)
              have HOW13 := hid (own_fr HOW11.out hf13 (fun _ _ h => h))
              have HIz := hid (own_is ho13 HFt.out (by have := HLw.out; omega))
              have HIw := hid (own_is HOW13.out HFt.out (by have := HLw.out; omega))
              obtain ⟨ao13, cap13, rfl⟩ := own_nil_shape ho13
              clear hf13 ho13 HC11 HF11 HOA11 HOW11 HOW13
              go_wp2_with fail
              refine (same_true _ _ _ _ HIz.out HIw.out).mono ?_
              rintro r w14 ⟨rfl, hf14⟩
              have HF14 := hid (HF13.out.trans hf14)
              clear hf14 HIz HIw HF13
              go_wp2_with fail
              go_ret
              exact ⟨rfl, HF14.out⟩
    | succ g =>
      have hi : i < (eps L).length := by omega
      have t1 : (i : Int) < ((eps L).length : Int) := by omega
      have HG := hid hg
      have HSn := hid (pre_snoc (eps L) i hi)
      obtain ⟨ao', cap', e, _, hfit, hc1⟩ := HI4.out.fr HT.out.fr
      obtain ⟨b, off, e2, k1⟩ := hc1 (by intro e; rw [e] at hi; simp at hi)
      cases e
      cases e2
      have c1 := k1 i hi
      have hbl := World.block_lt_of_cell? wr _ c1
      dsimp only at hbl
      have hyb : 1 ≤ (eps L).getD i 0 ∧ (eps L).getD i 0 ≤ 1099511627776 := by
        have hm : (eps L).getD i 0 ∈ eps L := by simp [List.getD, hi]
        obtain ⟨z, hz, hze⟩ := List.mem_map.1 (show (eps L).getD i 0 ∈ L.map (·.e) from hm)
        have := HC4.out.good.1 z hz
        rw [← hze]
        exact ⟨this.1, this.2.1⟩
      clear hc1 k1 hg hi hfit
      generalize (eps L).getD i 0 = y at *
      go_wp2_with (at_builtin; go_must (refine wpList_append_own_at _ rfl (.tmp 49) (.tmp 55) 38 rfl w5.heap.size 3 i0 (.int .i64 0) 1 8 Try.underlying38 hi0 hz0 hz1 hz2 rfl (by decide) _ _ _ rfl (own_fr HT.out.own (alloc_fr wr _ (fun _ => False)) (fun _ _ h => h)) ⟨wr.heap.size, 0, none⟩ 1 1 [.int .i64 (y - 1)] rfl rfl (cells_new _ _ _) ?c2 ?c3 ?c4 ?c5 ?_))
      case c2 => first | exact rfl | (intro u hu; simp at hu; subst hu; rfl)
      case c3 => unfold maxLen; omega
      case c4 => omega
      case c5 => first | omega | (simp; omega)
      intro u' w6 hown hgrow _ _
      have HT2 := hid (HT.out.put (news := [y - 1]) (alloc_fr wr _ _) hgrow hown)
      clear hown hgrow
      go_wp2_with fail
      go_roundg g
      case measure => omega
      case rel => exact ⟨i + 1, zs ++ [y - 1], by go_num, by have := HG.out; omega, by simp; omega, by show _ = _; rw [HSn.out, ← HZ.out], HT2⟩
end Go.Proofs.Ytcmniejffpoinaa
