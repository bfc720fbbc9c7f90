/- MergeParts: a walk. -/
import Derived.Test.YtodhamgcoflhpaaMParts0
import Derived.Test.YtodhamgcoflhpaaMKnown
namespace Go.Proofs.Ytodhamgcoflhpaa.M
open Go.RowKit

/-- The three lists and all of them, at their slices. -/
structure P4 (w V : World) (u1 u2 u3 u4 : Value) (X Y Z L : List Rw) : Prop where
  x : M.W.Ro7 w V u1 X
  y : M.W.Ro7 w V u2 Y
  z : M.W.Ro7 w V u3 Z
  l : M.W.Ro7 w V u4 L
theorem P4.fr {w V V' : World} {u1 u2 u3 u4 : Value} {X Y Z L : List Rw} (h : P4 w V u1 u2 u3 u4 X Y Z L) (hf : Fr V V' (fun _ => False)) : P4 w V' u1 u2 u3 u4 X Y Z L := ⟨h.x.fr hf, h.y.fr hf, h.z.fr hf, h.l.fr hf⟩
theorem RdR.ro {w V : World} {v : Value} {L : List Rw} (h : M.W.Ro7 w V v L) (hl : L.length ≤ 1000000) : RdR V v L := RdR.of h.1 (by omega)
theorem take_min (L : List Rw) (k : Nat) : L.take (min k L.length) = L.take k := by
  rcases Nat.le_total k L.length with h | h
  · rw [Nat.min_eq_left h]
  · rw [Nat.min_eq_right h, List.take_of_length_le (Nat.le_refl _), List.take_of_length_le h]
theorem rd_take {w V : World} {a : Option Addr} {c : Nat} {L : List Rw} (h : M.W.Ro7 w V (.slice a L.length c) L) (hl : L.length ≤ 1000000) (k c' : Nat) (hk : k ≤ L.length) : RdR V (.slice a k c') (L.take k) := by
  obtain ⟨ao, cap, e, h1, h2⟩ := RdR.ro h hl
  have e1 : ao = a := by simp only [Value.slice.injEq] at e; exact e.1.symm
  subst e1
  have hlk : (L.take k).length = k := by rw [List.length_take]; omega
  refine ⟨ao, c', by rw [hlk], by rw [hlk]; omega, fun hp => ?_⟩
  rw [hlk] at hp
  obtain ⟨b, o, e2, h3⟩ := h2 (by omega)
  refine ⟨b, o, e2, fun i hi => ?_⟩
  rw [hlk] at hi
  rw [List.getElem?_take, if_pos hi]
  exact h3 i (by omega)

set_option maxHeartbeats 8000000 in
set_option maxRecDepth 100000 in
theorem parts_walk {A B C : List Rw} {va vb vc : Value} (most : Int) (w : World) (ha : RdR w va A) (hb : RdR w vb B) (hc : RdR w vc C) :
    Calls Try.prog 4 #[.int .i64 most, va, vb, vc] w fun r w' => r = .returned (.bool true) ∧ Fr w w' (fun _ => False) := by
  obtain ⟨mo, hmo⟩ : ∃ mo : Nat, most % 700 = (mo : Int) := ⟨(most % 700).toNat, by omega⟩
  have hmo2 : mo < 700 := by omega
  have HW1 := hid (fun (V : World) => within_any most 700 (by decide) (by decide) V)
  rw [hmo] at HW1
  clear hmo
  have HPa := hid (pa_any A B C)
  have HA := hid ha
  have HB := hid hb
  have HC := hid hc
  clear ha hb hc
  go_enter Try.func4, Try.ntmps4
  go_wp2_with fail
  refine (known_any _).mono ?_
  rintro r w1 ⟨rfl, hf⟩
  have HF1 := hid hf
  clear hf
  go_wp2_with fail
  refine (HW1.out _).mono ?_
  rintro r w2 ⟨rfl, hw⟩
  have hw := hw.symm
  subst hw
  go_wp2_with fail
  refine (ordered_any _ (HA.out.step HF1.out)).mono ?_
  rintro r w2 ⟨u9, rfl, h9⟩
  have H9 := hid (Ro7.behind h9 HF1.out)
  clear h9
  go_wp2_with fail
  refine (ordered_any _ (HB.out.step H9.out.2)).mono ?_
  rintro r w3 ⟨u10, rfl, h10⟩
  have H10 := hid (Ro7.behind h10 H9.out.2)
  have H9b := hid (M.W.Ro7.fr H9.out h10.2)
  clear h10 H9
  go_wp2_with fail
  refine (ordered_any _ (HC.out.step H10.out.2)).mono ?_
  rintro r w4 ⟨u11, rfl, h11⟩
  have H11 := hid (Ro7.behind h11 H10.out.2)
  have H9 := hid (M.W.Ro7.fr H9b.out h11.2)
  have H10b := hid (M.W.Ro7.fr H10.out h11.2)
  clear h11 H9b H10 HA HB HC HF1 HW1
  generalize ordL (A.take 200) = X at *
  generalize ordL (B.take 200) = Y at *
  generalize ordL (C.take 200) = Z at *
  generalize hL : merged M.W.cmE [X, Y, Z] = L at HPa
  obtain ⟨a9, c9, e9⟩ := M.W.Ro7.shape H9.out
  obtain ⟨a10, c10, e10⟩ := M.W.Ro7.shape H10b.out
  obtain ⟨a11, c11, e11⟩ := M.W.Ro7.shape H11.out
  subst e9 e10 e11
  have hbx := HPa.out.bx
  have hby := HPa.out.by'
  have hbz := HPa.out.bz
  have hlen := HPa.out.len
  go_wp2_with fail
  refine (rows3 1000 H9.out H10b.out H11.out (by omega) (Fr.refl _ _)).mono ?_
  rintro r w5 ⟨u12, rfl, h12, hf5⟩
  rw [show (1000 : Int).toNat = 1000 from rfl, HPa.out.all] at h12
  obtain ⟨a12, c12, e12⟩ := M.W.Ro7.shape h12
  subst e12
  have HP : Hid (P4 w w5 (.slice a9 X.length c9) (.slice a10 Y.length c10) (.slice a11 Z.length c11) (.slice a12 L.length c12) X Y Z L) := ⟨M.W.Ro7.fr H9.out hf5, M.W.Ro7.fr H10b.out hf5, M.W.Ro7.fr H11.out hf5, h12⟩
  clear h12 hf5 H9 H10b H11 hL
  have hsum : (L.length : Int) = (X.length : Int) + (Y.length : Int) + (Z.length : Int) := by omega
  have hsumB : L.length ≤ 600 := by omega
  clear hlen
  go_wp2_with fail
  have HPb := HP
  clear HP hsum
  generalize w5 = V at *
  go_loopg [13, 14] (L.length - 1) (fun g s13 s14 wx => ∃ (j : Nat) (lk : Bool), s13 = .bool lk ∧ s14 = .int .i64 ((j : Int) + 1) ∧ (j + g = L.length - 1) ∧ Hid (lk = false → ∀ i, i < j → cmpC (L[i]?.getD default).c (L[i + 1]?.getD default).c ≠ 0) ∧ Hid (Fr V wx (fun _ => False)))
  case atStart => exact ⟨0, false, rfl, rfl, by omega, fun _ i hi => by omega, Fr.refl _ _⟩
  case round =>
    obtain ⟨j, lk, rfl, rfl, hg, HK, HF⟩ := hrel
    generalize wr = V1 at *
    have HP := hid (HPb.out.fr HF.out)
    have HFw := hid HP.out.l.2
    cases gk with
    | zero =>
      have t1 : ¬ (j : Int) + 1 < (L.length : Int) := by omega
      have HTu : Hid (lk = false → (merged M.W.cmE [Z, X, Y]).take 1000 = L) := fun h => HPa.out.turn (fun i hi => HK.out h i (by omega))
      clear hg HF HPb
      obtain ⟨q, hq, hq2, hq3⟩ : ∃ q : Nat, min (mo : Int) (L.length : Int) = (q : Int) ∧ q ≤ L.length ∧ L.take q = L.take mo := ⟨min mo L.length, by omega, Nat.min_le_right _ _, take_min L mo⟩
      have q0 : (0 : Int) ≤ (q : Int) := by omega
      have q1 : (q : Int) ≤ (L.length : Int) := by omega
      have q2 : (L.length : Int) ≤ (c12 : Int) := by
        rcases own_cases HP.out.l.1 with ⟨e, e2⟩ | ⟨g, c, e, hc1, hc2, hg1⟩
        · rw [e2]; simp
        · simp only [Value.slice.injEq] at e
          omega
      have q3 : (q : Int) ≤ (c12 : Int) := by omega
      have HQ := hid hq3
      have hl2 := HPa.out.l2
      have HLe := hid HPa.out.left
      have HRi := hid HPa.out.right
      have HMo := hid (HPa.out.most mo)
      clear hq3
      have HR1 := hid (fun (U U2 : World) (hf : Fr V1 U (fun _ => False)) (hu : Fr (U.alloc (.cells #[.slice a9 X.length c9, .slice a10 Y.length c10, .slice a11 Z.length c11] 22)) U2 (fun _ => False)) => (show Calls Try.prog 12 #[.int .i64 (mo : Int), .slice (some ⟨U.heap.size, 0, none⟩) 3 3] U2 fun e w' => ∃ v, e = .returned v ∧ M.W.Ro7 w w' v (L.take q) ∧ Fr U w' (fun _ => False) from by
        have h := rows3 (mo : Int) (HP.out.fr hf).x (HP.out.fr hf).y (HP.out.fr hf).z (by omega) hu
        rw [Int.toNat_natCast, HMo.out, ← HQ.out] at h
        exact h))
      have HTw := hid (fun (U U2 : World) (hf : Fr V1 U (fun _ => False)) (hu : Fr (U.alloc (.cells #[.slice a11 Z.length c11, .slice a9 X.length c9, .slice a10 Y.length c10] 22)) U2 (fun _ => False)) (hlk : lk = false) => (show Calls Try.prog 12 #[.int .i64 1000, .slice (some ⟨U.heap.size, 0, none⟩) 3 3] U2 fun e w' => ∃ v, e = .returned v ∧ M.W.Ro7 w w' v L ∧ Fr U w' (fun _ => False) from by
        have h := rows3 1000 (HP.out.fr hf).z (HP.out.fr hf).x (HP.out.fr hf).y (by omega) hu
        rw [show (1000 : Int).toNat = 1000 from rfl, HTu.out hlk] at h
        exact h))
      generalize hM12 : (merged M.W.cmE [X, Y]).take 1000 = M12 at *
      generalize hM23 : (merged M.W.cmE [Y, Z]).take 1000 = M23 at *
      have HR2 := hid (fun (U U2 : World) (hf : Fr V1 U (fun _ => False)) (hu : Fr (U.alloc (.cells #[.slice a9 X.length c9, .slice a10 Y.length c10] 22)) U2 (fun _ => False)) => (show Calls Try.prog 12 #[.int .i64 1000, .slice (some ⟨U.heap.size, 0, none⟩) 2 2] U2 fun e w' => ∃ v, e = .returned v ∧ M.W.Ro7 w w' v M12 ∧ Fr U w' (fun _ => False) from by
        have h := rows2 1000 (HP.out.fr hf).x (HP.out.fr hf).y (by omega) hu
        rw [show (1000 : Int).toNat = 1000 from rfl, hM12] at h
        exact h))
      have HR4 := hid (fun (U U2 : World) (hf : Fr V1 U (fun _ => False)) (hu : Fr (U.alloc (.cells #[.slice a10 Y.length c10, .slice a11 Z.length c11] 22)) U2 (fun _ => False)) => (show Calls Try.prog 12 #[.int .i64 1000, .slice (some ⟨U.heap.size, 0, none⟩) 2 2] U2 fun e w' => ∃ v, e = .returned v ∧ M.W.Ro7 w w' v M23 ∧ Fr U w' (fun _ => False) from by
        have h := rows2 1000 (HP.out.fr hf).y (HP.out.fr hf).z (by omega) hu
        rw [show (1000 : Int).toNat = 1000 from rfl, hM23] at h
        exact h))
      have HR3 := hid (fun (U U2 : World) (a : Option Addr) (c : Nat) (hf : Fr V1 U (fun _ => False)) (hu : Fr (U.alloc (.cells #[.slice a M12.length c, .slice a11 Z.length c11] 22)) U2 (fun _ => False)) (h7 : M.W.Ro7 w U (.slice a M12.length c) M12) => (show Calls Try.prog 12 #[.int .i64 1000, .slice (some ⟨U.heap.size, 0, none⟩) 2 2] U2 fun e w' => ∃ v, e = .returned v ∧ M.W.Ro7 w w' v L ∧ Fr U w' (fun _ => False) from by
        have h := rows2 1000 h7 (HP.out.fr hf).z (by omega) hu
        rw [show (1000 : Int).toNat = 1000 from rfl, HLe.out] at h
        exact h))
      have HR5 := hid (fun (U U2 : World) (a : Option Addr) (c : Nat) (hf : Fr V1 U (fun _ => False)) (hu : Fr (U.alloc (.cells #[.slice a9 X.length c9, .slice a M23.length c] 22)) U2 (fun _ => False)) (h7 : M.W.Ro7 w U (.slice a M23.length c) M23) => (show Calls Try.prog 12 #[.int .i64 1000, .slice (some ⟨U.heap.size, 0, none⟩) 2 2] U2 fun e w' => ∃ v, e = .returned v ∧ M.W.Ro7 w w' v L ∧ Fr U w' (fun _ => False) from by
        have h := rows2 1000 (HP.out.fr hf).x h7 (by omega) hu
        rw [show (1000 : Int).toNat = 1000 from rfl, HRi.out] at h
        exact h))
      have HS1 := hid (fun (U : World) (v : Value) (c' : Nat) (hf : Fr V1 U (fun _ => False)) (h7 : M.W.Ro7 w U v (L.take q)) => same_any U (RdR.ro h7 (by rw [List.length_take]; omega)) (rd_take (HP.out.fr hf).l (by omega) q c' hq2))
      have HS2 := hid (fun (U : World) (v : Value) (hf : Fr V1 U (fun _ => False)) (h7 : M.W.Ro7 w U v L) => same_any U (RdR.ro h7 (by omega)) (RdR.ro (HP.out.fr hf).l (by omega)))
      generalize hLq : L.take q = Lq at *
      clear hLq hM12 hM23 HQ HLe HRi HMo hl2 HPa HK HTu HP
      have HFx := hid (Fr.refl V1 (fun _ => False))
      go_wp2_with fail
      go_cut [106] (fun s106 wx => s106 = .bool false ∧ Hid (Fr V1 wx (fun _ => False)))
      case first =>
        go_region_held3 (fun W' => Hid (Fr V1 W' (fun _ => False)))
          ((refine (id : Fr V1 _ (fun _ => False) → _) ?_; repeat (first | with_reducible exact HFx.out | with_reducible exact Fr.refl _ _ | with_reducible apply Fr.drew | with_reducible apply Fr.alloc)))
          ((first
            | (go_at_call 12; with_reducible refine (HR1.out _ _ (by repeat (first | with_reducible exact HFx.out | with_reducible exact Fr.refl _ _ | with_reducible apply Fr.drew | with_reducible apply Fr.alloc)) (Fr.refl _ _)).mono ?_; rintro e w77 ⟨v77, rfl, hR, hf⟩; have HV77 := hid hR; have HFx := hid (Fr.trans (a := V1) (by repeat (first | with_reducible exact HFx.out | with_reducible exact Fr.refl _ _ | with_reducible apply Fr.drew | with_reducible apply Fr.alloc)) hf); clear hf hR; obtain ⟨a77, c77, e77⟩ := M.W.Ro7.shape HV77.out; subst e77)
            | (go_at_call 12; with_reducible refine (HR1.out _ _ (by repeat (first | with_reducible exact HFx.out | with_reducible exact Fr.refl _ _ | with_reducible apply Fr.drew | with_reducible apply Fr.alloc)) (Fr.drew (Fr.refl _ _))).mono ?_; rintro e w77 ⟨v77, rfl, hR, hf⟩; have HV77 := hid hR; have HFx := hid (Fr.trans (a := V1) (by repeat (first | with_reducible exact HFx.out | with_reducible exact Fr.refl _ _ | with_reducible apply Fr.drew | with_reducible apply Fr.alloc)) hf); clear hf hR; obtain ⟨a77, c77, e77⟩ := M.W.Ro7.shape HV77.out; subst e77)
            | (go_at_call 12; with_reducible refine (HR2.out _ _ (by repeat (first | with_reducible exact HFx.out | with_reducible exact Fr.refl _ _ | with_reducible apply Fr.drew | with_reducible apply Fr.alloc)) (Fr.refl _ _)).mono ?_; rintro e w87 ⟨v87, rfl, hR, hf⟩; have HV87 := hid hR; have HFx := hid (Fr.trans (a := V1) (by repeat (first | with_reducible exact HFx.out | with_reducible exact Fr.refl _ _ | with_reducible apply Fr.drew | with_reducible apply Fr.alloc)) hf); clear hf hR; obtain ⟨a87, c87, e87⟩ := M.W.Ro7.shape HV87.out; subst e87)
            | (go_at_call 12; with_reducible refine (HR2.out _ _ (by repeat (first | with_reducible exact HFx.out | with_reducible exact Fr.refl _ _ | with_reducible apply Fr.drew | with_reducible apply Fr.alloc)) (Fr.drew (Fr.refl _ _))).mono ?_; rintro e w87 ⟨v87, rfl, hR, hf⟩; have HV87 := hid hR; have HFx := hid (Fr.trans (a := V1) (by repeat (first | with_reducible exact HFx.out | with_reducible exact Fr.refl _ _ | with_reducible apply Fr.drew | with_reducible apply Fr.alloc)) hf); clear hf hR; obtain ⟨a87, c87, e87⟩ := M.W.Ro7.shape HV87.out; subst e87)
            | (go_at_call 12; with_reducible refine (HR4.out _ _ (by repeat (first | with_reducible exact HFx.out | with_reducible exact Fr.refl _ _ | with_reducible apply Fr.drew | with_reducible apply Fr.alloc)) (Fr.refl _ _)).mono ?_; rintro e w100 ⟨v100, rfl, hR, hf⟩; have HV100 := hid hR; have HFx := hid (Fr.trans (a := V1) (by repeat (first | with_reducible exact HFx.out | with_reducible exact Fr.refl _ _ | with_reducible apply Fr.drew | with_reducible apply Fr.alloc)) hf); clear hf hR; obtain ⟨a100, c100, e100⟩ := M.W.Ro7.shape HV100.out; subst e100)
            | (go_at_call 12; with_reducible refine (HR4.out _ _ (by repeat (first | with_reducible exact HFx.out | with_reducible exact Fr.refl _ _ | with_reducible apply Fr.drew | with_reducible apply Fr.alloc)) (Fr.drew (Fr.refl _ _))).mono ?_; rintro e w100 ⟨v100, rfl, hR, hf⟩; have HV100 := hid hR; have HFx := hid (Fr.trans (a := V1) (by repeat (first | with_reducible exact HFx.out | with_reducible exact Fr.refl _ _ | with_reducible apply Fr.drew | with_reducible apply Fr.alloc)) hf); clear hf hR; obtain ⟨a100, c100, e100⟩ := M.W.Ro7.shape HV100.out; subst e100)
            | (go_at_call 12; with_reducible refine (HR3.out _ _ _ _ (by repeat (first | with_reducible exact HFx.out | with_reducible exact Fr.refl _ _ | with_reducible apply Fr.drew | with_reducible apply Fr.alloc)) (Fr.refl _ _) (M.W.Ro7.fr HV87.out (by repeat (first | with_reducible exact Fr.refl _ _ | with_reducible apply Fr.drew | with_reducible apply Fr.alloc)))).mono ?_; rintro e w90 ⟨v90, rfl, hR, hf⟩; have HV90 := hid hR; have HFx := hid (Fr.trans (a := V1) (by repeat (first | with_reducible exact HFx.out | with_reducible exact Fr.refl _ _ | with_reducible apply Fr.drew | with_reducible apply Fr.alloc)) hf); clear hf hR; obtain ⟨a90, c90, e90⟩ := M.W.Ro7.shape HV90.out; subst e90)
            | (go_at_call 12; with_reducible refine (HR3.out _ _ _ _ (by repeat (first | with_reducible exact HFx.out | with_reducible exact Fr.refl _ _ | with_reducible apply Fr.drew | with_reducible apply Fr.alloc)) (Fr.drew (Fr.refl _ _)) (M.W.Ro7.fr HV87.out (by repeat (first | with_reducible exact Fr.refl _ _ | with_reducible apply Fr.drew | with_reducible apply Fr.alloc)))).mono ?_; rintro e w90 ⟨v90, rfl, hR, hf⟩; have HV90 := hid hR; have HFx := hid (Fr.trans (a := V1) (by repeat (first | with_reducible exact HFx.out | with_reducible exact Fr.refl _ _ | with_reducible apply Fr.drew | with_reducible apply Fr.alloc)) hf); clear hf hR; obtain ⟨a90, c90, e90⟩ := M.W.Ro7.shape HV90.out; subst e90)
            | (go_at_call 12; with_reducible refine (HR5.out _ _ _ _ (by repeat (first | with_reducible exact HFx.out | with_reducible exact Fr.refl _ _ | with_reducible apply Fr.drew | with_reducible apply Fr.alloc)) (Fr.refl _ _) (M.W.Ro7.fr HV100.out (by repeat (first | with_reducible exact Fr.refl _ _ | with_reducible apply Fr.drew | with_reducible apply Fr.alloc)))).mono ?_; rintro e w102 ⟨v102, rfl, hR, hf⟩; have HV102 := hid hR; have HFx := hid (Fr.trans (a := V1) (by repeat (first | with_reducible exact HFx.out | with_reducible exact Fr.refl _ _ | with_reducible apply Fr.drew | with_reducible apply Fr.alloc)) hf); clear hf hR; obtain ⟨a102, c102, e102⟩ := M.W.Ro7.shape HV102.out; subst e102)
            | (go_at_call 12; with_reducible refine (HR5.out _ _ _ _ (by repeat (first | with_reducible exact HFx.out | with_reducible exact Fr.refl _ _ | with_reducible apply Fr.drew | with_reducible apply Fr.alloc)) (Fr.drew (Fr.refl _ _)) (M.W.Ro7.fr HV100.out (by repeat (first | with_reducible exact Fr.refl _ _ | with_reducible apply Fr.drew | with_reducible apply Fr.alloc)))).mono ?_; rintro e w102 ⟨v102, rfl, hR, hf⟩; have HV102 := hid hR; have HFx := hid (Fr.trans (a := V1) (by repeat (first | with_reducible exact HFx.out | with_reducible exact Fr.refl _ _ | with_reducible apply Fr.drew | with_reducible apply Fr.alloc)) hf); clear hf hR; obtain ⟨a102, c102, e102⟩ := M.W.Ro7.shape HV102.out; subst e102)
            | (go_at_call 13; with_reducible refine (HS1.out _ _ _ (by repeat (first | with_reducible exact HFx.out | with_reducible exact Fr.refl _ _ | with_reducible apply Fr.drew | with_reducible apply Fr.alloc)) (M.W.Ro7.fr HV77.out (by repeat (first | with_reducible exact Fr.refl _ _ | with_reducible apply Fr.drew | with_reducible apply Fr.alloc)))).mono ?_; rintro e w81 ⟨rfl, hf⟩; have HFx := hid (Fr.trans (a := V1) (by repeat (first | with_reducible exact HFx.out | with_reducible exact Fr.refl _ _ | with_reducible apply Fr.drew | with_reducible apply Fr.alloc)) hf); clear hf)
            | (go_at_call 13; with_reducible refine (HS2.out _ _ (by repeat (first | with_reducible exact HFx.out | with_reducible exact Fr.refl _ _ | with_reducible apply Fr.drew | with_reducible apply Fr.alloc)) (M.W.Ro7.fr HV90.out (by repeat (first | with_reducible exact Fr.refl _ _ | with_reducible apply Fr.drew | with_reducible apply Fr.alloc)))).mono ?_; rintro e w92 ⟨rfl, hf⟩; have HFx := hid (Fr.trans (a := V1) (by repeat (first | with_reducible exact HFx.out | with_reducible exact Fr.refl _ _ | with_reducible apply Fr.drew | with_reducible apply Fr.alloc)) hf); clear hf)
            | (go_at_call 13; with_reducible refine (HS2.out _ _ (by repeat (first | with_reducible exact HFx.out | with_reducible exact Fr.refl _ _ | with_reducible apply Fr.drew | with_reducible apply Fr.alloc)) (M.W.Ro7.fr HV102.out (by repeat (first | with_reducible exact Fr.refl _ _ | with_reducible apply Fr.drew | with_reducible apply Fr.alloc)))).mono ?_; rintro e w104 ⟨rfl, hf⟩; have HFx := hid (Fr.trans (a := V1) (by repeat (first | with_reducible exact HFx.out | with_reducible exact Fr.refl _ _ | with_reducible apply Fr.drew | with_reducible apply Fr.alloc)) hf); clear hf)
            | fail))
        all_goals (
          go_wp2_with fail
          go_meet
          refine ⟨rfl, (?_ : Fr V1 _ (fun _ => False))⟩
          repeat (first | with_reducible exact HFx.out | with_reducible exact Fr.refl _ _ | with_reducible apply Fr.drew | with_reducible apply Fr.alloc))
      case rest =>
        obtain ⟨rfl, HF2⟩ := hcut
        generalize wc = V2 at *
        cases lk with
        | true =>
          go_wp2_with fail
          go_ret
          exact ⟨rfl, HFw.out.trans HF2.out⟩
        | false =>
          go_wp2_with fail
          refine (HTw.out _ _ HF2.out (Fr.refl _ _) (by first | trivial | rfl)).mono ?_
          rintro e w6 ⟨v6, rfl, h6, hf6⟩
          have HF6 := hid (HF2.out.trans hf6)
          have H6 := hid h6
          clear h6 hf6
          go_wp2_with fail
          refine (HS2.out _ _ HF6.out H6.out).mono ?_
          rintro e w7 ⟨rfl, hf7⟩
          have HF7 := hid (HF6.out.trans hf7)
          clear hf7
          go_wp2_with fail
          go_ret
          exact ⟨rfl, HFw.out.trans HF7.out⟩
    | succ g2 =>
      have t1 : (j : Int) + 1 < (L.length : Int) := by omega
      have t2 : (j : Int) < (L.length : Int) := by omega
      have t0 : (0 : Int) ≤ (j : Int) := by omega
      have t3 : (0 : Int) ≤ (j : Int) + 1 := by omega
      have t6 : IntKind.i64.wrap ((j : Int) + 1 - 1) = (j : Int) := by rw [IntKind.wrap_i64]; omega
      have t7 : IntKind.i64.wrap ((j : Int)) = (j : Int) := by rw [IntKind.wrap_i64]; omega
      have t4 : (j : Int) + 1 - 1 = (j : Int) := by omega
      have t5 : ((j : Int) + 1).toNat = j + 1 := by omega
      have HY : Hid (∃ g, a12 = some ⟨g, 0, none⟩ ∧ M.W.ElAt V1 g (j * 7) (L[j]?.getD default) ∧ M.W.ElAt V1 g ((j + 1) * 7) (L[j + 1]?.getD default)) := by
        rcases own_cases HP.out.l.1 with ⟨e, e2⟩ | ⟨g, c, e, hc1, hc2, hg1⟩
        · rw [e2] at t2; simp at t2; omega
        · have h := HP.out.l.1
          rw [e] at h
          obtain ⟨e5, e7⟩ : a12 = some ⟨g, 0, none⟩ ∧ c12 = c := by simpa using e
          exact ⟨g, e5, own_el h j (by omega), own_el h (j + 1) (by omega)⟩
      obtain ⟨g, rfl, hey, hex⟩ := HY.out
      clear HY
      have HEY := hid hey
      have HEX := hid hex
      have hyl := hey.lt
      have hd0 := HPa.out.adj j (by omega)
      have HKn : Hid (∀ lk2 : Bool, lk2 = (lk || decide (cmpC (L[j]?.getD default).c (L[j + 1]?.getD default).c = 0)) → lk2 = false → ∀ i, i < j + 1 → cmpC (L[i]?.getD default).c (L[i + 1]?.getD default).c ≠ 0) := by
        intro lk2 h1 h2 i hi
        rw [h2] at h1
        have h3 := h1.symm
        rw [Bool.or_eq_false_iff] at h3
        rcases Nat.lt_or_ge i j with h4 | h4
        · exact HK.out h3.1 i h4
        · have : i = j := by omega
          rw [this]
          exact of_decide_eq_false h3.2
      have HS2 := hid hg
      clear hg hey hex
      generalize L[j]?.getD default = y at *
      generalize L[j + 1]?.getD default = x at *
      have HC := hid (fun U => compareC_any y.c x.c U)
      unfold vC at HC
      generalize cmpC y.c x.c = d at *
      have HC0 := hid (fun (W' : World) (hf : Fr V1 W' (fun _ => False)) => (show W'.cell? ⟨g, j * 7, none⟩ = some (.int .i64 y.c.v) ∧ W'.cell? ⟨g, j * 7 + 1, none⟩ = some (.string y.c.k) ∧ W'.cell? ⟨g, j * 7 + 2, none⟩ = some (.int .i64 y.c.s) ∧ W'.cell? ⟨g, (j + 1) * 7, none⟩ = some (.int .i64 x.c.v) ∧ W'.cell? ⟨g, (j + 1) * 7 + 1, none⟩ = some (.string x.c.k) ∧ W'.cell? ⟨g, (j + 1) * 7 + 2, none⟩ = some (.int .i64 x.c.s) ∧ g < W'.heap.size from by
        obtain ⟨p0, p1, p2, _⟩ := HEY.out.fr hf
        obtain ⟨q0, q1, q2, _⟩ := HEX.out.fr hf
        exact ⟨p0, p1, p2, q0, q1, q2, (HEY.out.fr hf).lt⟩))
      have HF1 := hid (Fr.refl V1 (fun _ => False))
      go_wp2_with fail
      go_cut [15] (fun s15 wx => s15 = .int .i64 d ∧ Hid (Fr V1 wx (fun _ => False)))
      case first =>
        go_region_held3 (fun W' => Hid (Fr V1 W' (fun _ => False)) ∧ W'.cell? ⟨g, j * 7, none⟩ = some (.int .i64 y.c.v) ∧ W'.cell? ⟨g, j * 7 + 1, none⟩ = some (.string y.c.k) ∧ W'.cell? ⟨g, j * 7 + 2, none⟩ = some (.int .i64 y.c.s) ∧ W'.cell? ⟨g, (j + 1) * 7, none⟩ = some (.int .i64 x.c.v) ∧ W'.cell? ⟨g, (j + 1) * 7 + 1, none⟩ = some (.string x.c.k) ∧ W'.cell? ⟨g, (j + 1) * 7 + 2, none⟩ = some (.int .i64 x.c.s) ∧ g < W'.heap.size)
          ((refine (fun h => ⟨h, HC0.out _ h⟩ : Fr V1 _ (fun _ => False) → _) ?_; repeat (first | with_reducible exact HF1.out | with_reducible exact Fr.refl _ _ | with_reducible apply Fr.drew | with_reducible apply Fr.alloc)))
          (first
          | (go_at_call 17; refine (HC.out _).mono ?_; rintro e w1 ⟨rfl, hf⟩; have HF1 := hid (Fr.trans (a := V1) (by repeat (first | with_reducible exact HF1.out | with_reducible exact Fr.refl _ _ | with_reducible apply Fr.drew | with_reducible apply Fr.alloc)) hf); clear hf)
          | fail)
        all_goals (
          go_wp2_with fail
          go_meet
          refine ⟨rfl, (?_ : Fr V1 _ (fun _ => False))⟩
          repeat (first | with_reducible exact HF1.out | with_reducible exact Fr.refl _ _ | with_reducible apply Fr.drew | with_reducible apply Fr.alloc))
      case rest =>
        obtain ⟨rfl, HF2⟩ := hcut
        have s1 : ¬ 0 < d := by omega
        have HFn := hid (HF.out.trans HF2.out)
        cases lk with
        | true =>
          go_wp2_with fail
          go_roundg g2
          case measure => omega
          case rel => exact ⟨j + 1, true, by simp, by go_num, by have := HS2.out; omega, HKn.out true (by simp), HFn⟩
        | false =>
          go_wp2_with fail
          go_roundg g2
          case measure => omega
          case rel => exact ⟨j + 1, (d == 0), by simp, by go_num, by have := HS2.out; omega, HKn.out _ (by rw [Bool.false_or]; exact Bool.beq_eq_decide_eq d 0), HFn⟩
end Go.Proofs.Ytodhamgcoflhpaa.M
