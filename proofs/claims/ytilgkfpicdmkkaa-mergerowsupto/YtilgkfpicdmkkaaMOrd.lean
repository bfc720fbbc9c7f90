/- The laws' ordered: a walk. Written by wip/gen/genord.py. -/
import Derived.Test.YtilgkfpicdmkkaaMSame
namespace Go.Proofs.Ytilgkfpicdmkkaa.M
open Go.RowKit

theorem take_ord (L : List Rw) : L.take (min L.length 200) = L.take 200 := by
  rcases Nat.le_total L.length 200 with h | h
  · rw [Nat.min_eq_left h, List.take_of_length_le (Nat.le_refl _), List.take_of_length_le h]
  · rw [Nat.min_eq_right h]
theorem take_next {L : List Rw} {i : Nat} (h : i < L.length) : L.take (i + 1) = L.take i ++ [L[i]?.getD default] := by
  rw [List.take_add_one, List.getElem?_eq_getElem h]
  rfl
theorem ordL_len2 (L : List Rw) (i : Nat) : (ordL (L.take i)).length ≤ i := by
  have h1 := ordL_len (L.take i)
  rw [List.length_take] at h1
  omega
theorem Ro7.behind {w V U : World} {v : Value} {l : List Rw} (h : M.W.Ro7 V U v l) (hf : Fr w V (fun _ => False)) : M.W.Ro7 w U v l := ⟨own_mono h.1 hf.size, hf.trans h.2⟩
theorem own_take {base : Nat} {w : World} {g c k : Nat} {L : List Rw} (h : w.ownsRow base 54 7 (.slice (some ⟨g, 0, none⟩) L.length c) L.length (rc L)) (hk : k ≤ L.length) (c' : Nat) : RdZ w (.slice (some ⟨g, 0, none⟩) k c') (L.take k) := by
  refine Or.inr ⟨g, 0, c', by rw [List.length_take, Nat.min_eq_left hk], fun i hi => ?_⟩
  rw [List.length_take] at hi
  rw [Nat.zero_add, List.getElem?_take, if_pos (by omega)]
  exact own_el h i (by omega)
theorem own_drop {base : Nat} {w : World} {g c k : Nat} {L : List Rw} (h : w.ownsRow base 54 7 (.slice (some ⟨g, 0, none⟩) L.length c) L.length (rc L)) (hk : k ≤ L.length) (c' : Nat) : RdZ w (.slice (some ⟨g, k * 7, none⟩) (L.length - k) c') (L.drop k) := by
  refine Or.inr ⟨g, k * 7, c', by rw [List.length_drop], fun i hi => ?_⟩
  rw [List.length_drop] at hi
  rw [List.getElem?_drop, show k * 7 + i * 7 = (k + i) * 7 by omega]
  exact own_el h (k + i) (by omega)

set_option maxHeartbeats 8000000 in
set_option maxRecDepth 100000 in
theorem ordered_any {L : List Rw} {v : Value} (w : World) (hv : RdR w v L) :
    Calls Try.prog 8 #[v] w fun r w' => ∃ u, r = .returned u ∧ M.W.Ro7 w w' u (ordL (L.take 200)) := by
  obtain ⟨ao, cap, rfl, hl, hv⟩ := hv
  have HV := hid hv
  clear hv
  go_enter Try.func8, Try.ntmps8
  go_wp2_with fail
  go_loopg [3, 4] (min L.length 200) (fun g s3 s4 wx => ∃ i : Nat, s4 = .int .i64 (i : Int) ∧ i + g = min L.length 200 ∧ Hid (M.W.Ro7 w wx s3 (ordL (L.take i))))
  case atStart => exact ⟨0, rfl, by omega, ⟨rfl, Or.inl ⟨rfl, rfl⟩⟩, Fr.refl _ _⟩
  case round =>
    obtain ⟨i, rfl, hg, HO⟩ := hrel
    have hol := ordL_len2 L i
    cases gk with
    | zero =>
      have hi : i = min L.length 200 := by omega
      have HE : Hid (M.W.Ro7 w wr u3 (ordL (L.take 200))) := by
        have := HO.out
        rw [hi, take_ord] at this
        exact this
      by_cases hlt : i < L.length
      · have t1 : (i : Int) < (L.length : Int) := by omega
        have t2 : ¬ (i : Int) < 200 := by omega
        clear hg hi hlt
        go_wp2_with fail
        go_ret
        exact ⟨_, rfl, HE.out⟩
      · have t1 : ¬ (i : Int) < (L.length : Int) := by omega
        clear hg hi hlt
        go_wp2_with fail
        go_ret
        exact ⟨_, rfl, HE.out⟩
    | succ go =>
      have t0 : (0 : Int) ≤ (i : Int) := by omega
      have t1 : (i : Int) < (L.length : Int) := by omega
      have t2 : (i : Int) < 200 := by omega
      have hi200 : i < 200 := by omega
      have HG := hid hg
      obtain ⟨b, o, rfl, hel⟩ := HV.out (by omega)
      have HX := hid ((hel i (by omega)).fr HO.out.2)
      have HN : Hid (ordL (L.take (i + 1)) = insR (L[i]?.getD default) (ordL (L.take i))) := by
        show _ = _
        rw [take_next (by omega), ordL_snoc]
      clear hg hel
      generalize ordL (L.take i) = out at *
      generalize L[i]?.getD default = x at *
      generalize wr = V at *
      obtain ⟨a3, c3, e3⟩ := own_nil_shape HO.out.1
      subst e3
      have hxl := HX.out.lt
      go_wp2_with fail
      go_loopg [5] out.length (fun g s5 wx => ∃ k : Nat, s5 = .int .i64 (k : Int) ∧ k + g = out.length ∧ Hid (∀ j, j < k → cmpC (out[j]?.getD default).c x.c < 0) ∧ Hid (Fr V wx (fun _ => False)))
      case atStart => exact ⟨0, rfl, by omega, fun j hj => by omega, Fr.refl _ _⟩
      case round =>
        obtain ⟨k, rfl, hk, HK, HF⟩ := hrel
        have HQ := hid HG.out
        generalize wr = V1 at *
        have HX1 := hid (HX.out.fr HF.out)
        have HO1 := hid (HO.out.fr HF.out)
        have hxl1 := HX1.out.lt
        cases gk with
        | zero =>
          have hke : k = out.length := by omega
          have s1 : decide ((k : Int) < (out.length : Int)) = false := decide_eq_false (by omega)
          have s2 : decide (k < out.length) = false := decide_eq_false (by omega)
          have s3 : ¬ (k : Int) < (out.length : Int) := by omega
          have HIz : Hid (insR x out = out.take k ++ x :: out.drop k) := by
            show _ = _
            rw [insR_at x out k (by omega) HK.out (fun h => by omega), if_neg (by omega)]
          have hkl : k ≤ out.length := by omega
          have HKe := hid hke
          clear hk hke
          have HOz := HO1
          have HXz := HX1
          have HFz := HF
          clear HO1 HX1 HF
          go_wp2_with fail
          go_quiet (fail)
          go_wp2_with fail
          go_quiet (fail)
          generalize V1 = Vz at *
          rcases own_cases HOz.out.1 with ⟨e, e2⟩ | ⟨g, c, e, hc1, hc2, hg1⟩
          · obtain ⟨e5, e6, e7⟩ : a3 = none ∧ out.length = 0 ∧ c3 = 0 := by simpa using e
            subst e5 e7
            have hk0 : k = 0 := by rw [HKe.out, e2]; rfl
            clear HKe
            subst hk0
            subst e2
            try simp only [List.length_nil, Int.natCast_zero] at *
            go_wp2_with (at_builtin; go_must (refine wpl_ap (wb := Vz) rfl (.tmp 54) (.tmp 57) rfl _ [] rfl ⟨⟨rfl, Or.inl ⟨rfl, rfl⟩⟩, by repeat (first | with_reducible exact Fr.refl _ _ | with_reducible apply Fr.drew | with_reducible apply Fr.drewN)⟩ _ [] rfl (Or.inl ⟨rfl, rfl⟩) (by simp) ?_))
            intro v1 w1 hR hgr
            try rw [List.nil_append] at hR
            have HR1 := hid hR
            obtain ⟨q0, q1, q2, q3, q4, q5, q6⟩ := HXz.out.fr hR.2
            have hbl := (HXz.out.fr hR.2).lt
            clear hR hgr
            obtain ⟨a1, c1, e1⟩ := M.W.Ro7.shape HR1.out
            subst e1
            go_wp2_with (at_builtin; go_must (refine M.W.wpl_r7 (wb := Vz) rfl (.tmp 59) (.tmp 64) rfl _ [] rfl x rfl (by simp) HR1.out ?_))
            intro v2 w2 hR hgr
            have HR2 := hid hR
            clear hR hgr
            obtain ⟨a2, c2, e2'⟩ := M.W.Ro7.shape HR2.out
            subst e2'
            go_wp2_with (at_builtin; go_must (refine wpl_ap (wb := Vz) rfl (.tmp 66) (.tmp 69) rfl _ _ rfl HR2.out _ [] rfl (Or.inl ⟨rfl, rfl⟩) (by simp) ?_))
            intro v3 w3 hR hgr
            have hR : M.W.Ro7 Vz w3 v3 (ordL (L.take (i + 1))) := by rw [HN.out, HIz.out]; simpa using hR
            have HR3 := hid (Ro7.behind (Ro7.behind hR HFz.out) HO.out.2)
            clear hR hgr
            go_wp2_with fail
            go_roundg go
            case measure => omega
            case rel => exact ⟨i + 1, by go_num, by have := HG.out; omega, HR3⟩
          · obtain ⟨e5, e7⟩ : a3 = some ⟨g, 0, none⟩ ∧ c3 = c := by simpa using e
            subst e5 e7
            by_cases hck : c3 = k
            · have z0 : (0 : Int) ≤ (k : Int) := by omega
              have z1 : (k : Int) ≤ (out.length : Int) := by omega
              have z2 : (k : Int) ≤ (c3 : Int) := by omega
              have z3 : (out.length : Int) ≤ (c3 : Int) := by omega
              go_wp2_with (at_builtin; go_must (refine wpl_ap (wb := Vz) rfl (.tmp 54) (.tmp 57) rfl _ [] rfl ⟨⟨rfl, Or.inl ⟨rfl, rfl⟩⟩, by repeat (first | with_reducible exact Fr.refl _ _ | with_reducible apply Fr.drew | with_reducible apply Fr.drewN)⟩ _ (out.take k) rfl ?z1 ?z2 ?_))
              case z1 => exact own_take (c := c3) (own_fr HOz.out.1 (show Fr Vz (World.drewN Vz _) (fun _ => False) from by repeat (first | with_reducible exact Fr.refl _ _ | with_reducible apply Fr.drew | with_reducible apply Fr.drewN)) (fun _ _ h => h)) hkl _
              case z2 => rw [List.length_take]; simp; omega
              intro v1 w1 hR hgr
              try rw [List.nil_append] at hR
              have HR1 := hid hR
              obtain ⟨q0, q1, q2, q3, q4, q5, q6⟩ := HXz.out.fr hR.2
              have hbl := (HXz.out.fr hR.2).lt
              clear hR hgr
              obtain ⟨a1, c1, e1⟩ := M.W.Ro7.shape HR1.out
              subst e1
              have HX7 := hid (And.intro q0 (And.intro q1 (And.intro q2 (And.intro q3 (And.intro q4 (And.intro q5 q6))))))
              go_wp2_with (at_builtin; go_must (refine M.W.wpl_r7 (wb := Vz) rfl (.tmp 59) (.tmp 64) rfl _ (out.take k) rfl x rfl ?z3 HR1.out ?_))
              case z3 => rw [List.length_take]; omega
              intro v2 w2 hR hgr
              have HR2 := hid hR
              clear hR hgr
              obtain ⟨a2, c2, e2'⟩ := M.W.Ro7.shape HR2.out
              subst e2'
              go_wp2_with (at_builtin; go_must (refine wpl_ap (wb := Vz) rfl (.tmp 66) (.tmp 69) rfl _ (out.take k ++ [x]) rfl HR2.out _ (out.drop k) rfl ?z4 ?z5 ?_))
              case z4 => exact Or.inr ⟨g, 0, 0, by rw [List.length_drop]; rfl, fun i hi => by rw [List.length_drop] at hi; have := HKe.out; omega⟩
              case z5 => rw [List.length_append, List.length_take, List.length_drop]; simp; omega
              intro v3 w3 hR hgr
              have hR : M.W.Ro7 Vz w3 v3 (ordL (L.take (i + 1))) := by rw [HN.out, HIz.out]; simpa using hR
              have HR3 := hid (Ro7.behind (Ro7.behind hR HFz.out) HO.out.2)
              clear hR hgr
              go_wp2_with fail
              go_roundg go
              case measure => omega
              case rel => exact ⟨i + 1, by go_num, by have := HG.out; omega, HR3⟩
            · have z0 : (0 : Int) ≤ (k : Int) := by omega
              have z1 : (k : Int) ≤ (out.length : Int) := by omega
              have z2 : (k : Int) ≤ (c3 : Int) := by omega
              have z3 : (out.length : Int) ≤ (c3 : Int) := by omega
              go_wp2_with (at_builtin; go_must (refine wpl_ap (wb := Vz) rfl (.tmp 54) (.tmp 57) rfl _ [] rfl ⟨⟨rfl, Or.inl ⟨rfl, rfl⟩⟩, by repeat (first | with_reducible exact Fr.refl _ _ | with_reducible apply Fr.drew | with_reducible apply Fr.drewN)⟩ _ (out.take k) rfl ?z1 ?z2 ?_))
              case z1 => exact own_take (c := c3) (own_fr HOz.out.1 (show Fr Vz (World.drewN Vz _) (fun _ => False) from by repeat (first | with_reducible exact Fr.refl _ _ | with_reducible apply Fr.drew | with_reducible apply Fr.drewN)) (fun _ _ h => h)) hkl _
              case z2 => rw [List.length_take]; simp; omega
              intro v1 w1 hR hgr
              try rw [List.nil_append] at hR
              have HR1 := hid hR
              obtain ⟨q0, q1, q2, q3, q4, q5, q6⟩ := HXz.out.fr hR.2
              have hbl := (HXz.out.fr hR.2).lt
              clear hR hgr
              obtain ⟨a1, c1, e1⟩ := M.W.Ro7.shape HR1.out
              subst e1
              have HX7 := hid (And.intro q0 (And.intro q1 (And.intro q2 (And.intro q3 (And.intro q4 (And.intro q5 q6))))))
              go_wp2_with (at_builtin; go_must (refine M.W.wpl_r7 (wb := Vz) rfl (.tmp 59) (.tmp 64) rfl _ (out.take k) rfl x rfl ?z3 HR1.out ?_))
              case z3 => rw [List.length_take]; omega
              intro v2 w2 hR hgr
              have HR2 := hid hR
              clear hR hgr
              obtain ⟨a2, c2, e2'⟩ := M.W.Ro7.shape HR2.out
              subst e2'
              go_wp2_with (at_builtin; go_must (refine wpl_ap (wb := Vz) rfl (.tmp 66) (.tmp 69) rfl _ (out.take k ++ [x]) rfl HR2.out _ (out.drop k) rfl ?z4 ?z5 ?_))
              case z4 => exact own_drop (own_fr HOz.out.1 HR2.out.2 (fun _ _ h => h)) hkl _
              case z5 => rw [List.length_append, List.length_take, List.length_drop]; simp; omega
              intro v3 w3 hR hgr
              have hR : M.W.Ro7 Vz w3 v3 (ordL (L.take (i + 1))) := by rw [HN.out, HIz.out]; simpa using hR
              have HR3 := hid (Ro7.behind (Ro7.behind hR HFz.out) HO.out.2)
              clear hR hgr
              go_wp2_with fail
              go_roundg go
              case measure => omega
              case rel => exact ⟨i + 1, by go_num, by have := HG.out; omega, HR3⟩
        | succ g2 =>
          have hkl : k ≤ out.length := by omega
          have s1 : (k : Int) < (out.length : Int) := by omega
          have s0 : (0 : Int) ≤ (k : Int) := by omega
          have HY : Hid (∃ g, a3 = some ⟨g, 0, none⟩ ∧ c3 ≤ 9223372036854775807 ∧ out.length ≤ c3 ∧ M.W.ElAt V1 g (k * 7) (out[k]?.getD default)) := by
            rcases own_cases HO1.out.1 with ⟨e, e2⟩ | ⟨g, c, e, hc1, hc2, hg1⟩
            · rw [e2] at s1; simp at s1; omega
            · have h := HO1.out.1
              rw [e] at h
              obtain ⟨e5, e7⟩ : a3 = some ⟨g, 0, none⟩ ∧ c3 = c := by simpa using e
              exact ⟨g, e5, by omega, by omega, own_el h k (by omega)⟩
          obtain ⟨g, rfl, hc2, hc1, hey⟩ := HY.out
          clear HY
          have HEY := hid hey
          have hyl := hey.lt
          have HIn : Hid ((¬ cmpC (out[k]?.getD default).c x.c < 0) → insR x out = if cmpC (out[k]?.getD default).c x.c = 0 then out else out.take k ++ x :: out.drop k) := by
            intro h
            rw [insR_at x out k (by omega) HK.out (fun _ => h)]
            by_cases h0 : cmpC (out[k]?.getD default).c x.c = 0
            · rw [if_pos ⟨by omega, h0⟩, if_pos h0]
            · rw [if_neg (fun h => h0 h.2), if_neg h0]
          have HKn : Hid (cmpC (out[k]?.getD default).c x.c < 0 → ∀ j, j < k + 1 → cmpC (out[j]?.getD default).c x.c < 0) := by
            intro h j hj
            rcases Nat.lt_or_ge j k with h2 | h2
            · exact HK.out j h2
            · have : j = k := by omega
              rw [this]
              exact h
          have HS2 := hid (show k + (g2 + 1) = out.length from hk)
          clear hk hey
          generalize out[k]?.getD default = y at *
          have HC := hid (fun U => rcompare_any y.c x.c U)
          unfold vC at HC
          have HZ : Hid (cmpC y.c x.c = 0 ↔ y.c = x.c) := cmpC_zero
          generalize cmpC y.c x.c = d at *
          have HC0 := hid (fun (W' : World) (hf : Fr V1 W' (fun _ => False)) => (show W'.cell? ⟨g, k * 7, none⟩ = some (.int .i64 y.c.v) ∧ W'.cell? ⟨g, k * 7 + 1, none⟩ = some (.string y.c.k) ∧ W'.cell? ⟨g, k * 7 + 2, none⟩ = some (.int .i64 y.c.s) ∧ W'.cell? ⟨b, o + i * 7, none⟩ = some (.int .i64 x.c.v) ∧ W'.cell? ⟨b, o + i * 7 + 1, none⟩ = some (.string x.c.k) ∧ W'.cell? ⟨b, o + i * 7 + 2, none⟩ = some (.int .i64 x.c.s) ∧ g < W'.heap.size ∧ b < W'.heap.size from by
            obtain ⟨p0, p1, p2, _⟩ := HEY.out.fr hf
            obtain ⟨q0, q1, q2, _⟩ := HX1.out.fr hf
            exact ⟨p0, p1, p2, q0, q1, q2, (HEY.out.fr hf).lt, (HX1.out.fr hf).lt⟩))
          have HF1 := hid (Fr.refl V1 (fun _ => False))
          go_wp2_with fail
          go_cut [34] (fun s34 wx => s34 = .bool (decide (d < 0)) ∧ Hid (Fr V1 wx (fun _ => False)))
          case first =>
            go_region_held3 (fun W' => Hid (Fr V1 W' (fun _ => False)) ∧ W'.cell? ⟨g, k * 7, none⟩ = some (.int .i64 y.c.v) ∧ W'.cell? ⟨g, k * 7 + 1, none⟩ = some (.string y.c.k) ∧ W'.cell? ⟨g, k * 7 + 2, none⟩ = some (.int .i64 y.c.s) ∧ W'.cell? ⟨b, o + i * 7, none⟩ = some (.int .i64 x.c.v) ∧ W'.cell? ⟨b, o + i * 7 + 1, none⟩ = some (.string x.c.k) ∧ W'.cell? ⟨b, o + i * 7 + 2, none⟩ = some (.int .i64 x.c.s) ∧ g < W'.heap.size ∧ b < W'.heap.size)
              ((refine (fun h => ⟨h, HC0.out _ h⟩ : Fr V1 _ (fun _ => False) → _) ?_; repeat (first | with_reducible exact HF1.out | with_reducible exact Fr.refl _ _ | with_reducible apply Fr.drew | with_reducible apply Fr.alloc)))
              (first
              | (go_at_call 24; refine (HC.out _).mono ?_; rintro e w1 ⟨rfl, hf⟩; have HF1 := hid (Fr.trans (a := V1) (by repeat (first | with_reducible exact HF1.out | with_reducible exact Fr.refl _ _ | with_reducible apply Fr.drew | with_reducible apply Fr.alloc)) hf); clear hf)
              | fail)
            all_goals (
              go_wp2_with fail
              go_meet
              refine ⟨rfl, (?_ : Fr V1 _ (fun _ => False))⟩
              repeat (first | with_reducible exact HF1.out | with_reducible exact Fr.refl _ _ | with_reducible apply Fr.drew | with_reducible apply Fr.alloc))
          case rest =>
            obtain ⟨rfl, HF2⟩ := hcut
            by_cases hd : d < 0
            · have HKo := hid (HKn.out hd)
              go_wp2_with fail
              go_roundg g2
              case measure => omega
              case rel => exact ⟨k + 1, by go_num, by have := HS2.out; omega, HKo, HF.out.trans HF2.out⟩
            · have HI0 := hid (HIn.out (by first | exact hd | omega))
              generalize wc = V2 at *
              have HO2 := hid (HO1.out.fr HF2.out)
              have HX2 := hid (HX1.out.fr HF2.out)
              have HFV := hid (HF.out.trans HF2.out)
              obtain ⟨p0, p1, p2, q0, q1, q2, hgl2, hbl2⟩ := HC0.out _ HF2.out
              by_cases hd0 : d = 0
              · have hxy := HZ.out.1 hd0
                have HI := HI0.out
                rw [if_pos hd0] at HI
                have HIf := hid HI
                clear HI
                rw [hxy] at p0 p1 p2
                go_wp2_with fail
                go_quiet (fail)
                go_wp2_with fail
                go_roundg go
                case measure => omega
                case rel => exact ⟨i + 1, by go_num, by have := HG.out; omega, by
                  have h : M.W.Ro7 w V2 (.slice (some ⟨g, 0, none⟩) out.length c3) (ordL (L.take (i + 1))) := by rw [HN.out.trans HIf.out]; exact HO2.out
                  exact M.W.Ro7.fr h (by repeat (first | with_reducible exact Fr.refl _ _ | with_reducible apply Fr.drew | with_reducible apply Fr.drewN))⟩
              · have hxy : ¬ y.c = x.c := fun h => hd0 (HZ.out.2 h)
                have HI := HI0.out
                rw [if_neg hd0] at HI
                have HIz := hid HI
                clear HI
                go_wp2_with fail
                go_cut [53] (fun s53 wx => s53 = .bool false ∧ Hid (Fr V2 wx (fun _ => False)))
                case first =>
                  by_cases f1 : y.c.v = x.c.v
                  · by_cases f2 : y.c.k = x.c.k
                    · have f3 : ¬ y.c.s = x.c.s := fun f3 => hxy (by
                        have e1 : y.c = ⟨y.c.v, y.c.k, y.c.s⟩ := rfl
                        rw [e1, f1, f2, f3])
                      rw [f1] at p0
                      rw [f2] at p1
                      have f4 : decide (y.c.s = x.c.s) = false := by simpa using f3
                      have f5 : (y.c.s == x.c.s) = false := by simpa using f3
                      clear f1 f2 f3
                      go_quiet (fail)
                      go_wp2_with fail
                      go_meet
                      refine ⟨by simp, (?_ : Fr V2 _ (fun _ => False))⟩
                      repeat (first | with_reducible exact Fr.refl _ _ | with_reducible apply Fr.drew | with_reducible apply Fr.drewN)
                    · have f3 : ¬ y.c.k.toList = x.c.k.toList := by
                        intro e3
                        rw [ByteArray.toList_eq, ByteArray.toList_eq] at e3
                        exact f2 (ByteArray.ext (Array.toList_inj.1 e3))
                      rw [f1] at p0
                      have f4 : decide (y.c.k.toList = x.c.k.toList) = false := by simpa using f3
                      have f5 : (y.c.k.toList == x.c.k.toList) = false := by simpa using f3
                      clear f1 f2 f3
                      go_quiet (fail)
                      go_wp2_with fail
                      go_meet
                      refine ⟨by simp, (?_ : Fr V2 _ (fun _ => False))⟩
                      repeat (first | with_reducible exact Fr.refl _ _ | with_reducible apply Fr.drew | with_reducible apply Fr.drewN)
                  · have f4 : decide (y.c.v = x.c.v) = false := by simpa using f1
                    have f5 : (y.c.v == x.c.v) = false := by simpa using f1
                    clear f1
                    go_quiet (fail)
                    go_wp2_with fail
                    go_meet
                    refine ⟨by simp, (?_ : Fr V2 _ (fun _ => False))⟩
                    repeat (first | with_reducible exact Fr.refl _ _ | with_reducible apply Fr.drew | with_reducible apply Fr.drewN)
                case rest =>
                  obtain ⟨rfl, HF3⟩ := hcut
                  generalize wc = Vz at *
                  have HOz := hid (M.W.Ro7.fr HO2.out HF3.out)
                  have HXz := hid (HX2.out.fr HF3.out)
                  have HFz := hid (HFV.out.trans HF3.out)
                  clear HO2 HX2 HFV p0 p1 p2 q0 q1 q2
                  have z0 : (0 : Int) ≤ (k : Int) := by omega
                  have z1 : (k : Int) ≤ (out.length : Int) := by omega
                  have z2 : (k : Int) ≤ (c3 : Int) := by omega
                  have z3 : (out.length : Int) ≤ (c3 : Int) := by omega
                  go_wp2_with (at_builtin; go_must (refine wpl_ap (wb := Vz) rfl (.tmp 54) (.tmp 57) rfl _ [] rfl ⟨⟨rfl, Or.inl ⟨rfl, rfl⟩⟩, by repeat (first | with_reducible exact Fr.refl _ _ | with_reducible apply Fr.drew | with_reducible apply Fr.drewN)⟩ _ (out.take k) rfl ?z1 ?z2 ?_))
                  case z1 => exact own_take (c := c3) HOz.out.1 hkl _
                  case z2 => rw [List.length_take]; simp; omega
                  intro v1 w1 hR hgr
                  try rw [List.nil_append] at hR
                  have HR1 := hid hR
                  obtain ⟨q0, q1, q2, q3, q4, q5, q6⟩ := HXz.out.fr hR.2
                  have hbl := (HXz.out.fr hR.2).lt
                  clear hR hgr
                  obtain ⟨a1, c1, e1⟩ := M.W.Ro7.shape HR1.out
                  subst e1
                  have HX7 := hid (And.intro q0 (And.intro q1 (And.intro q2 (And.intro q3 (And.intro q4 (And.intro q5 q6))))))
                  go_wp2_with (at_builtin; go_must (refine M.W.wpl_r7 (wb := Vz) rfl (.tmp 59) (.tmp 64) rfl _ (out.take k) rfl x rfl ?z3 HR1.out ?_))
                  case z3 => rw [List.length_take]; omega
                  intro v2 w2 hR hgr
                  have HR2 := hid hR
                  clear hR hgr
                  obtain ⟨a2, c2, e2'⟩ := M.W.Ro7.shape HR2.out
                  subst e2'
                  go_wp2_with (at_builtin; go_must (refine wpl_ap (wb := Vz) rfl (.tmp 66) (.tmp 69) rfl _ (out.take k ++ [x]) rfl HR2.out _ (out.drop k) rfl ?z4 ?z5 ?_))
                  case z4 => exact own_drop (own_fr HOz.out.1 HR2.out.2 (fun _ _ h => h)) hkl _
                  case z5 => rw [List.length_append, List.length_take, List.length_drop]; simp; omega
                  intro v3 w3 hR hgr
                  have hR : M.W.Ro7 Vz w3 v3 (ordL (L.take (i + 1))) := by rw [HN.out, HIz.out]; simpa using hR
                  have HR3 := hid (Ro7.behind (Ro7.behind hR HFz.out) HO.out.2)
                  clear hR hgr
                  go_wp2_with fail
                  go_roundg go
                  case measure => omega
                  case rel => exact ⟨i + 1, by go_num, by have := HG.out; omega, HR3⟩
end Go.Proofs.Ytilgkfpicdmkkaa.M
