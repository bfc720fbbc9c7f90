/- MergeRows: a walk. -/
import Derived.Test.YtilgkfpicdmkkaaMMRows0
namespace Go.Proofs.Ytilgkfpicdmkkaa.M
open Go.RowKit

theorem field_rs (W : World) (a : Option Addr) (n c : Nat) : (Instr.field 30 (.agg #[.int .i64 0, .int .i64 0, .int .i64 0, .int .i64 0, .slice a n c, .int .i64 0, .int .i64 0, .int .i64 0, .int .i64 0, .int .i64 0, .int .i64 0]) 4).run Try.prog W = .ok (.slice a n c) W := by kernel_rfl

set_option maxHeartbeats 8000000 in
set_option maxRecDepth 100000 in
theorem mrows_walk (most : Int) {A B C : List Rw} {va vb vc : Value} (w : World) (ha : RdR w va A) (hb : RdR w vb B) (hc : RdR w vc C) :
    Calls Try.prog 3 #[.int .i64 most, va, vb, vc] w fun r w' => r = .returned (.bool true) ∧ Fr w w' (fun _ => False) := by
  have hfld := field_rs
  have HA := hid ha
  have HB := hid hb
  have HC := hid hc
  have hxl := ordL_len2 A 200
  have hyl := ordL_len2 B 200
  have hzl := ordL_len2 C 200
  obtain ⟨aa, ca, rfl, _⟩ := ha
  obtain ⟨ab, cb', rfl, _⟩ := hb
  obtain ⟨ac, cc, rfl, _⟩ := hc
  generalize hla : A.length = la at *
  generalize hlb : B.length = lb at *
  generalize hlc : C.length = lc at *
  clear hla hlb hlc
  go_enter Try.func3, Try.ntmps3
  go_wp2_with fail
  refine (known_any _).mono ?_
  rintro r wk ⟨rfl, hf⟩
  have HFk := hid hf
  clear hf
  go_wp2_with fail
  refine (ordered_any _ (HA.out.step HFk.out)).mono ?_
  rintro r w1 ⟨u1, rfl, h1⟩
  have H1 := hid (Ro7.behind h1 HFk.out)
  clear h1
  go_wp2_with fail
  refine (ordered_any _ (HB.out.step H1.out.2)).mono ?_
  rintro r w2 ⟨u2, rfl, h2⟩
  have H2 := hid (Ro7.behind h2 H1.out.2)
  have H1b := hid (M.W.Ro7.fr H1.out h2.2)
  clear h2 H1
  go_wp2_with fail
  refine (ordered_any _ (HC.out.step H2.out.2)).mono ?_
  rintro r w3 ⟨u3, rfl, h3⟩
  have H3 := hid (Ro7.behind h3 H2.out.2)
  have H1c := hid (M.W.Ro7.fr H1b.out h3.2)
  have H2c := hid (M.W.Ro7.fr H2.out h3.2)
  clear h3 H1b H2 HA HB HC HFk
  generalize ordL (A.take 200) = X at *
  generalize ordL (B.take 200) = Y at *
  generalize ordL (C.take 200) = Z at *
  obtain ⟨a1, c1, e1⟩ := M.W.Ro7.shape H1c.out
  obtain ⟨a2, c2, e2⟩ := M.W.Ro7.shape H2c.out
  obtain ⟨a3, c3, e3⟩ := M.W.Ro7.shape H3.out
  subst e1 e2 e3
  have HSp : Hid (SpR w (w3.alloc (.cells #[.slice a1 X.length c1, .slice a2 Y.length c2, .slice a3 Z.length c3] 22)) (.slice (some ⟨w3.heap.size, 0, none⟩) 3 3) [.slice a1 X.length c1, .slice a2 Y.length c2, .slice a3 Z.length c3] [X, Y, Z]) :=
    lit_sp (us := [.slice a1 X.length c1, .slice a2 Y.length c2, .slice a3 Z.length c3]) (ls := [X, Y, Z]) rfl (by simp) H3.out.2 (fun p hp hq => by
      match p, hp with
      | 0, _ => exact H1c.out.1
      | 1, _ => exact H2c.out.1
      | 2, _ => exact H3.out.1)
  have HTot : Hid (tot [X, Y, Z] ≤ 600) := by show _ ≤ _; simp [tot]; omega
  have HBl : Hid (∀ u ∈ [Value.slice a1 X.length c1, .slice a2 Y.length c2, .slice a3 Z.length c3], ∀ k, u.ownBlock = some k → k < w3.heap.size) := fun u hu k hk => by
    simp at hu
    rcases hu with rfl | rfl | rfl
    · exact (H1c.out.1.lt k hk).2
    · exact (H2c.out.1.lt k hk).2
    · exact (H3.out.1.lt k hk).2
  clear H1c H2c H3
  go_wp2_with fail
  generalize hN : w3.heap.size = N at *
  have HV0s : Hid ((w3.alloc (.cells #[.slice a1 X.length c1, .slice a2 Y.length c2, .slice a3 Z.length c3] 22)).heap.size = N + 1) := by show _ = _; simp [hN]
  generalize w3.alloc (.cells #[.slice a1 X.length c1, .slice a2 Y.length c2, .slice a3 Z.length c3] 22) = V0 at *
  clear hN
  have hc0 := HSp.out.own.cells (g := N) rfl 0 _ rfl
  have hc1 := HSp.out.own.cells (g := N) rfl 1 _ rfl
  have hc2 := HSp.out.own.cells (g := N) rfl 2 _ rfl
  rw [Addr.add_lit, Nat.zero_add] at hc0 hc1 hc2
  have hNl := World.block_lt_of_cell? _ _ hc0
  have HC0 := hid (fun (W' : World) (hf : Fr V0 W' (fun _ => False)) => (And.intro (ci_fr hc0 hf) (And.intro (ci_fr hc1 hf) (And.intro (ci_fr hc2 hf) (Nat.lt_of_lt_of_le hNl hf.size)))))
  have HRd := hid (fun (W' : World) (hf : Fr V0 W' (fun _ => False)) => (show RdR W' (.slice a1 X.length c1) X ∧ RdR W' (.slice a2 Y.length c2) Y ∧ RdR W' (.slice a3 Z.length c3) Z from
    ⟨(RdR.of (HSp.out.each 0 (by simp) (by simp)) (by show X.length ≤ _; omega)).step hf, (RdR.of (HSp.out.each 1 (by simp) (by simp)) (by show Y.length ≤ _; omega)).step hf, (RdR.of (HSp.out.each 2 (by simp) (by simp)) (by show Z.length ≤ _; omega)).step hf⟩))
  go_wp2_with fail
  refine (lendR_any (L := X) (v := .slice a1 X.length c1) V0 (HRd.out V0 (Fr.refl _ _)).1 (by omega)).mono ?_
  rintro r v1 ⟨g1, rfl, hg1, hR1, hf1⟩
  unfold rs11
  have HX := hid hR1
  have HF1 := hid hf1
  have hg1' := hg1
  have hl1 := hR1.lt
  obtain ⟨k0, k1, k2, k3⟩ := HC0.out v1 hf1
  clear hR1 hf1 hc0 hc1 hc2 hNl
  go_wp2_with fail
  refine (lendR_any (L := Y) (v := .slice a2 Y.length c2) v1 (HRd.out v1 HF1.out).2.1 (by omega)).mono ?_
  rintro r v2 ⟨g2, rfl, hg2, hR2, hf2⟩
  unfold rs11
  have HX2 := hid (HX.out.fr hf2 (fun h => h))
  have HY := hid hR2
  have HF2 := hid (HF1.out.trans hf2)
  have hl2 := hR2.lt
  obtain ⟨m0, m1, m2, m3⟩ := HC0.out v2 HF2.out
  clear hR2 hf2 HX k0 k1 k2 k3
  go_wp2_with fail
  refine (lendR_any (L := Z) (v := .slice a3 Z.length c3) v2 (HRd.out v2 HF2.out).2.2 (by omega)).mono ?_
  rintro r v3 ⟨g3, rfl, hg3, hR3, hf3⟩
  unfold rs11
  have HX3 := hid (HX2.out.fr hf3 (fun h => h))
  have HY3 := hid (HY.out.fr hf3 (fun h => h))
  have HZ := hid hR3
  have HF3 := hid (HF2.out.trans hf3)
  have hl3 := hR3.lt
  have hwV : w.heap.size ≤ V0.heap.size := HSp.out.fr.size
  have HFw := hid (HSp.out.fr.trans HF3.out)
  clear hR3 hf3 HX2 HY m0 m1 m2 m3
  have HFr := hid (fun (U : World) (hu : Fr (v3.alloc (.cells #[.slice (some ⟨g1, 0, none⟩) X.length (X.length + 3), .slice (some ⟨g2, 0, none⟩) Y.length (Y.length + 3), .slice (some ⟨g3, 0, none⟩) Z.length (Z.length + 3)] 22)) U (fun _ => False)) => rows3v most HFw.out (Row7.front (M := List.replicate 3 mkR ++ List.replicate (3 - 3) zR) HX3.out (by omega) (lentL_len X 3 (Nat.le_refl _)) (by omega)) (Row7.front (M := List.replicate 3 mkR ++ List.replicate (3 - 3) zR) HY3.out (by omega) (lentL_len Y 3 (Nat.le_refl _)) (by omega)) (Row7.front (M := List.replicate 3 mkR ++ List.replicate (3 - 3) zR) HZ.out (by omega) (lentL_len Z 3 (Nat.le_refl _)) (by omega)) (by have := HTot.out; omega) hu)
  have hPl : ((merged M.W.cmE [X, Y, Z]).take most.toNat).length ≤ 600 := by rw [List.length_take, merged_len M.W.cmE_cm]; have := HTot.out; omega
  have HPe : Hid ((merged M.W.cmE [X, Y, Z]).take most.toNat = (merged M.W.cmE [X, Y, Z]).take most.toNat) := rfl
  generalize hP : (merged M.W.cmE [X, Y, Z]).take most.toNat = P at HFr hPl
  have HPq := hid hP
  clear hP HPe
  go_wp2_with fail
  refine (HFr.out _ (Fr.refl _ _)).mono ?_
  rintro r v4 ⟨vg, rfl, h4⟩
  obtain ⟨ag, cg, eg⟩ := M.W.Ro7.shape h4
  subst eg
  have HMR : Hid (MR w v4 N g1 g2 g3 (.slice a1 X.length c1) (.slice a2 Y.length c2) (.slice a3 Z.length c3) (.slice ag P.length cg) X Y Z P) :=
    ⟨HSp.out.step (HF3.out.trans h4.2), HX3.out.fr h4.2 (fun h => h), HY3.out.fr h4.2 (fun h => h), HZ.out.fr h4.2 (fun h => h), own_mono h4.1 (by omega), ⟨by omega, by omega, by omega⟩, fun u hu k hk => by have := HBl.out u hu k hk; have := HV0s.out; omega⟩
  clear h4 HFr HX3 HY3 HZ HBl HC0 HRd HSp HF1 HF2 HF3 HFw hg1 hg1' hg2 hg3 hl1 hl2 hl3 hwV HV0s
  have HRf := hid (fun (V : World) (hM : MR w V N g1 g2 g3 (.slice a1 X.length c1) (.slice a2 Y.length c2) (.slice a3 Z.length c3) (.slice ag P.length cg) X Y Z P) (W' : World) (hf : Fr V W' (fun b => b = g1 ∨ b = g2 ∨ b = g3)) => (show Calls Try.prog 12 #[.int .i64 most, .slice (some ⟨N, 0, none⟩) 3 3] W' fun e w' => ∃ v, e = .returned v ∧ M.W.Ro7 W' w' v P from by
    obtain ⟨sv, hat⟩ := (hM.spf hf).at (by simp)
    have h := rrows_any most W' hat (by have := HTot.out; omega)
    rw [HPq.out] at h
    exact h))
  go_wp2_with fail
  refine (HRf.out v4 HMR.out _ (Fr.refl _ _)).mono ?_
  rintro r v5 ⟨u5, rfl, h5⟩
  have HM5 := hid (HMR.out.step h5.2)
  have H5 := hid h5
  obtain ⟨a5, c5, e5⟩ := M.W.Ro7.shape h5
  subst e5
  clear h5 HMR
  go_wp2_with fail
  refine (same_any (L := P) v5 (HM5.out.gotf (Fr.refl _ _) (by omega)) (RdR.of H5.out.1 (by omega))).mono ?_
  rintro r V ⟨rfl, hf6⟩
  have HM := hid (HM5.out.step hf6)
  clear HM5 H5 hf6
  have HC9 := hid (fun (W' : World) (hf : Fr V W' (fun b => b = g1 ∨ b = g2 ∨ b = g3)) => HM.out.cells hf)
  have HK1 := hid (fun (W' : World) (hf : Fr V W' (fun _ => False)) => keptR_any (L := X) (g := g1) (v := .slice a1 X.length c1) W' (HM.out.x.fr hf (fun h => h)) (RdR.of ((HM.out.sp.step hf).each 0 (by simp) (by simp)) (by show X.length ≤ _; omega)) (by omega))
  have HK2 := hid (fun (W' : World) (hf : Fr V W' (fun b => b = g1)) => keptR_any (L := Y) (g := g2) (v := .slice a2 Y.length c2) W' (HM.out.y.fr hf (by have := HM.out.lt; omega)) (RdR.of ((HM.out.spf (hf.mono (fun _ _ h => Or.inl h))).each 1 (by simp) (by simp)) (by show Y.length ≤ _; omega)) (by omega))
  have HK3 := hid (fun (W' : World) (hf : Fr V W' (fun b => b = g1 ∨ b = g2)) => keptR_any (L := Z) (g := g3) (v := .slice a3 Z.length c3) W' (HM.out.z.fr hf (by have := HM.out.lt; omega)) (RdR.of ((HM.out.spf (hf.mono (fun _ _ h => h.elim Or.inl (fun h => Or.inr (Or.inl h))))).each 2 (by simp) (by simp)) (by show Z.length ≤ _; omega)) (by omega))
  have HK4 := hid (HRf.out V HM.out)
  have HK6 := hid (fun (W' : World) => rows0 most W')
  have HK7 := hid (fun (W' : World) (hf : Fr V W' (fun b => b = g1 ∨ b = g2 ∨ b = g3)) (U : World) (hu : Fr (W'.alloc (.cells #[.slice a1 X.length c1] 22)) U (fun _ => False)) => rows1v (l1 := X) most (HM.out.spf hf).fr ((HM.out.spf hf).each 0 (by simp) (by simp)) (by simp [tot]; omega) hu)
  have HK8 := hid (fun (W' : World) (hf : Fr V W' (fun b => b = g1 ∨ b = g2 ∨ b = g3)) => (show Calls Try.prog 12 #[.int .i64 most, .slice (some ⟨N, 0, none⟩) 1 3] W' fun e w' => ∃ v, e = .returned v ∧ M.W.Ro7 W' w' v ((merged M.W.cmE [X]).take most.toNat) from by
    obtain ⟨sv, hat⟩ := (HM.out.spf hf).first.at (by simp)
    exact rrows_any most W' hat (by simp [tot]; omega)))
  have hP1 : ((merged M.W.cmE [X]).take most.toNat).length ≤ 600 := by rw [List.length_take, merged_len M.W.cmE_cm]; simp [tot]; omega
  generalize (merged M.W.cmE [X]).take most.toNat = P1 at *
  have HFw := hid (fun (W' : World) (hf : Fr V W' (fun b => b = g1 ∨ b = g2 ∨ b = g3)) => (show Fr w W' (fun _ => False) from (HM.out.spf hf).fr))
  have HG := hid (fun (W' : World) (hf : Fr V W' (fun b => b = g1 ∨ b = g2 ∨ b = g3)) => HM.out.gotf hf (by omega))
  have HF := hid (Fr.refl V (fun b => b = g1 ∨ b = g2 ∨ b = g3))
  have HFa := hid (Fr.refl V (fun _ => False))
  obtain ⟨k0, k1, k2, k3⟩ := HC9.out V HF.out
  clear HRf HPq HM HTot
  go_wp2_with fail
  go_region_held3 (fun W' => Hid (Fr V W' (fun b => b = g1 ∨ b = g2 ∨ b = g3)) ∧ W'.cell? ⟨N, 0, none⟩ = some (.slice a1 X.length c1) ∧ W'.cell? ⟨N, 1, none⟩ = some (.slice a2 Y.length c2) ∧ W'.cell? ⟨N, 2, none⟩ = some (.slice a3 Z.length c3) ∧ N < W'.heap.size)
    ((refine (fun h => ⟨h, HC9.out _ h⟩ : Fr V _ (fun b => b = g1 ∨ b = g2 ∨ b = g3) → _) ?_; repeat (first | with_reducible exact HF.out | with_reducible exact Fr.refl _ _ | with_reducible apply Fr.drew | with_reducible apply Fr.alloc)))
    (first
    | (go_at_call 13; (with_reducible refine (HK1.out _ (by repeat (first | with_reducible exact HFa.out | with_reducible exact Fr.refl _ _ | with_reducible apply Fr.drew | with_reducible apply Fr.alloc))).mono ?_); rintro e y1 ⟨rfl, hf⟩; have HFb : Hid (Fr V y1 (fun b => b = g1)) := (Fr.trans2 (S := fun b => b = g1) (Fr.mono ((by repeat (first | with_reducible exact HFa.out | with_reducible exact Fr.refl _ _ | with_reducible apply Fr.drew | with_reducible apply Fr.alloc)) : Fr V _ (fun _ => False)) (fun _ _ h => h.elim)) hf (fun _ _ h => h)); have HF : Hid (Fr V y1 (fun b => b = g1 ∨ b = g2 ∨ b = g3)) := (HFb.out.mono (fun _ _ h => Or.inl h)); clear hf)
    | (go_at_call 13; (with_reducible refine (HK2.out _ (by repeat (first | with_reducible exact HFb.out | with_reducible exact Fr.refl _ _ | with_reducible apply Fr.drew | with_reducible apply Fr.alloc))).mono ?_); rintro e y2 ⟨rfl, hf⟩; have HFc : Hid (Fr V y2 (fun b => b = g1 ∨ b = g2)) := (Fr.trans2 (S := fun b => b = g1 ∨ b = g2) (Fr.mono ((by repeat (first | with_reducible exact HFb.out | with_reducible exact Fr.refl _ _ | with_reducible apply Fr.drew | with_reducible apply Fr.alloc)) : Fr V _ (fun b => b = g1)) (fun _ _ h => Or.inl h)) hf (fun _ _ h => Or.inr h)); have HF : Hid (Fr V y2 (fun b => b = g1 ∨ b = g2 ∨ b = g3)) := (HFc.out.mono (fun _ _ h => h.elim Or.inl (fun h => Or.inr (Or.inl h)))); clear hf)
    | (go_at_call 13; (with_reducible refine (HK3.out _ (by repeat (first | with_reducible exact HFc.out | with_reducible exact Fr.refl _ _ | with_reducible apply Fr.drew | with_reducible apply Fr.alloc))).mono ?_); rintro e y3 ⟨rfl, hf⟩; have HF : Hid (Fr V y3 (fun b => b = g1 ∨ b = g2 ∨ b = g3)) := (Fr.trans2 (S := (fun b => b = g1 ∨ b = g2 ∨ b = g3)) (Fr.mono ((by repeat (first | with_reducible exact HFc.out | with_reducible exact Fr.refl _ _ | with_reducible apply Fr.drew | with_reducible apply Fr.alloc)) : Fr V _ (fun b => b = g1 ∨ b = g2)) (fun _ _ h => h.elim Or.inl (fun h => Or.inr (Or.inl h)))) hf (fun _ _ h => Or.inr (Or.inr h))); clear hf)
    | (go_at_call 12; (with_reducible refine (HK4.out _ (by repeat (first | with_reducible exact HF.out | with_reducible exact Fr.refl _ _ | with_reducible apply Fr.drew | with_reducible apply Fr.alloc))).mono ?_); rintro e y4 ⟨u4, rfl, h4⟩; (obtain ⟨p4, q4, e4⟩ := M.W.Ro7.shape h4); subst e4; have HR79 := hid (RdR.of h4.1 (by omega)); have HF : Hid (Fr V y4 (fun b => b = g1 ∨ b = g2 ∨ b = g3)) := (Fr.trans ((by repeat (first | with_reducible exact HF.out | with_reducible exact Fr.refl _ _ | with_reducible apply Fr.drew | with_reducible apply Fr.alloc)) : Fr V _ (fun b => b = g1 ∨ b = g2 ∨ b = g3)) (h4.2.mono (fun _ _ h => h.elim))); clear h4)
    | (go_at_call 11; (with_reducible refine (same_any (L := P) _ (HG.out _ (by repeat (first | with_reducible exact HF.out | with_reducible exact Fr.refl _ _ | with_reducible apply Fr.drew | with_reducible apply Fr.alloc))) (RdR.step HR79.out (by repeat (first | with_reducible exact Fr.refl _ _ | with_reducible apply Fr.drew | with_reducible apply Fr.alloc)))).mono ?_); rintro e y5 ⟨rfl, hf⟩; have HF : Hid (Fr V y5 (fun b => b = g1 ∨ b = g2 ∨ b = g3)) := (Fr.trans ((by repeat (first | with_reducible exact HF.out | with_reducible exact Fr.refl _ _ | with_reducible apply Fr.drew | with_reducible apply Fr.alloc)) : Fr V _ (fun b => b = g1 ∨ b = g2 ∨ b = g3)) (hf.mono (fun _ _ h => h.elim))); clear hf)
    | (go_at_call 10; (with_reducible refine (HK6.out _).mono ?_); rintro e y6 ⟨a6, c6, rfl, hf⟩; have HF : Hid (Fr V y6 (fun b => b = g1 ∨ b = g2 ∨ b = g3)) := (Fr.trans ((by repeat (first | with_reducible exact HF.out | with_reducible exact Fr.refl _ _ | with_reducible apply Fr.drew | with_reducible apply Fr.alloc)) : Fr V _ (fun b => b = g1 ∨ b = g2 ∨ b = g3)) (hf.mono (fun _ _ h => h.elim))); clear hf)
    | (go_at_call 10; (with_reducible refine (HK7.out y6 HF.out _ (Fr.refl _ _)).mono ?_); rintro e y7 ⟨u7, rfl, h7⟩; (obtain ⟨p7, q7, e7⟩ := M.W.Ro7.shape h7); subst e7; have HR94 := hid (RdR.of h7.1 (by omega)); have HF : Hid (Fr V y7 (fun b => b = g1 ∨ b = g2 ∨ b = g3)) := (Fr.trans ((by repeat (first | with_reducible exact HF.out | with_reducible exact Fr.refl _ _ | with_reducible apply Fr.drew | with_reducible apply Fr.alloc)) : Fr V _ (fun b => b = g1 ∨ b = g2 ∨ b = g3)) (h7.2.mono (fun _ _ h => h.elim))); clear h7)
    | (go_at_call 10; (with_reducible refine (HK7.out y6 HF.out _ (Fr.drew (Fr.refl _ _))).mono ?_); rintro e y7 ⟨u7, rfl, h7⟩; (obtain ⟨p7, q7, e7⟩ := M.W.Ro7.shape h7); subst e7; have HR94 := hid (RdR.of h7.1 (by omega)); have HF : Hid (Fr V y7 (fun b => b = g1 ∨ b = g2 ∨ b = g3)) := (Fr.trans ((by repeat (first | with_reducible exact HF.out | with_reducible exact Fr.refl _ _ | with_reducible apply Fr.drew | with_reducible apply Fr.alloc)) : Fr V _ (fun b => b = g1 ∨ b = g2 ∨ b = g3)) (h7.2.mono (fun _ _ h => h.elim))); clear h7)
    | (go_at_call 12; (with_reducible refine (HK8.out _ (by repeat (first | with_reducible exact HF.out | with_reducible exact Fr.refl _ _ | with_reducible apply Fr.drew | with_reducible apply Fr.alloc))).mono ?_); rintro e y8 ⟨u8, rfl, h8⟩; (obtain ⟨p8, q8, e8⟩ := M.W.Ro7.shape h8); subst e8; have HR98 := hid (RdR.of h8.1 (by omega)); have HR94 := hid (RdR.step HR94.out (Fr.trans (by repeat (first | with_reducible exact Fr.refl _ _ | with_reducible apply Fr.drew | with_reducible apply Fr.alloc)) h8.2)); have HF : Hid (Fr V y8 (fun b => b = g1 ∨ b = g2 ∨ b = g3)) := (Fr.trans ((by repeat (first | with_reducible exact HF.out | with_reducible exact Fr.refl _ _ | with_reducible apply Fr.drew | with_reducible apply Fr.alloc)) : Fr V _ (fun b => b = g1 ∨ b = g2 ∨ b = g3)) (h8.2.mono (fun _ _ h => h.elim))); clear h8)
    | (go_at_call 11; (with_reducible refine (same_any (L := P1) _ (RdR.step HR94.out (by repeat (first | with_reducible exact Fr.refl _ _ | with_reducible apply Fr.drew | with_reducible apply Fr.alloc))) (RdR.step HR98.out (by repeat (first | with_reducible exact Fr.refl _ _ | with_reducible apply Fr.drew | with_reducible apply Fr.alloc)))).mono ?_); rintro e y9 ⟨rfl, hf⟩; have HF : Hid (Fr V y9 (fun b => b = g1 ∨ b = g2 ∨ b = g3)) := (Fr.trans ((by repeat (first | with_reducible exact HF.out | with_reducible exact Fr.refl _ _ | with_reducible apply Fr.drew | with_reducible apply Fr.alloc)) : Fr V _ (fun b => b = g1 ∨ b = g2 ∨ b = g3)) (hf.mono (fun _ _ h => h.elim))); clear hf)
    | fail)
  all_goals (
    go_wp2_with fail
    go_ret
    exact ⟨by simp, HFw.out _ (by repeat (first | with_reducible exact HF.out | with_reducible exact Fr.refl _ _ | with_reducible apply Fr.drew | with_reducible apply Fr.alloc))⟩)
end Go.Proofs.Ytilgkfpicdmkkaa.M
