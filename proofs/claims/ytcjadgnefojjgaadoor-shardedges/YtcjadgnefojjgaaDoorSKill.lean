/- shard: Kill: a walk. -/
import Derived.Test.YtcjadgnefojjgaaDoorSPut2
namespace Go.Proofs.YtcjadgnefojjgaaDoor.S
open Go.RowKit G

/-- P704: the error. -/
noncomputable def killErr (V : Vw) (e : Int) (c : Cl) : Int :=
  if mayE c ≠ 0 then mayE c else if e < 1 ∨ 1099511627776 < e then 1 else gone (getV V c) e
noncomputable def killS (V : Vw) (e : Int) (c : Cl) : Vw := if killErr V e c = 0 then setV V c (layL (getV V c) ⟨e, false, a0⟩) else V
/-- The numbers behind a Kill. -/
theorem kill_nums {V : Vw} {c : Cl} {e : Int} (hg : G.Good (getV V c)) (he : 1 ≤ e ∧ e ≤ 1099511627776) (ht : (nw (getV V c)).t = true) :
    (nV (setV V c (layL (getV V c) ⟨e, false, a0⟩)) : Int) = nV V + layN (getV V c) ⟨e, false, a0⟩ ∧ (nT (setV V c (layL (getV V c) ⟨e, false, a0⟩)) : Int) = nT V + -1 ∧ (mxV (setV V c (layL (getV V c) ⟨e, false, a0⟩)) : Int) = max (mxV V : Int) ((layL (getV V c) ⟨e, false, a0⟩).length : Int) ∧ nU (setV V c (layL (getV V c) ⟨e, false, a0⟩)) ≤ nU V := by
  have hx : (⟨e, false, a0⟩ : Vn).ok := ⟨he.1, he.2, by unfold fit4 fits a0; simp, fun _ => rfl⟩
  have h1 := layL_len hg ⟨e, false, a0⟩ hx
  have h2 := setV_nV V c (layL (getV V c) ⟨e, false, a0⟩)
  have h3 := setV_nT V c (layL (getV V c) ⟨e, false, a0⟩)
  have hn : 0 ≤ layN (getV V c) ⟨e, false, a0⟩ ∧ layN (getV V c) ⟨e, false, a0⟩ ≤ 1 := by unfold layN; split <;> omega
  have h4 := setV_mx V c (layL (getV V c) ⟨e, false, a0⟩) (by omega)
  have h5 : th (layL (getV V c) ⟨e, false, a0⟩) = 0 := by unfold th; rw [layL_nw]; rfl
  have h6 : th (getV V c) = 1 := by unfold th; rw [ht]; rfl
  rw [h5, h6] at h3
  have h7 := (getV_nV V c).2
  refine ⟨by omega, by omega, by rw [h4]; omega, ?_⟩
  unfold nU
  omega
theorem ShI.same {w : World} {base S slots B gr : Nat} {ge : Option Nat} {T : Tb} {M : List Ent} (h : ShI w base S slots B gr ge T M) {e : Ent} (he : e ∈ M) {f : Ent} (hf : f ∈ M) (hc : f.c = e.c) : f = e := by
  have hp := h.apart
  rcases List.mem_iff_append.1 he with ⟨l1, l2, rfl⟩
  rw [List.pairwise_append] at hp
  rcases List.mem_append.1 hf with h1 | h1
  · exact absurd hc (hp.2.2 f h1 e (by simp)).1
  · rcases List.mem_cons.1 h1 with rfl | h1
    · rfl
    · exact absurd hc.symm ((List.pairwise_cons.1 hp.2.1).1 f h1).1

set_option maxHeartbeats 8000000 in
set_option maxRecDepth 100000 in
theorem kill_any {base S slots : Nat} {X : Nat → Prop} {V : Vw} (e : Int) (c : Cl) (w : World) (h : Sh w base S slots X V) (hk : c.k.size ≤ 9223372036854775807) :
    Calls Tryd.prog 10 #[.pointer (some ⟨S, 0, none⟩), .int .i64 e, .agg #[.int .i64 c.v, .string c.k, .int .i64 c.s]] w fun r w' => r = .returned (.int .i64 (killErr V e c)) ∧ Left w w' base S slots X (killS V e c) := by
  have HCk := hid (fun W => check_any e c W hk)
  have HSh := hid h
  have HLn : Hid (∀ w', Fr w w' (fun _ => False) → Left w w' base S slots X V) := fun w' hf => Left.none h hf
  have HPS : Hid (killS V e c = if killErr V e c = 0 then setV V c (layL (getV V c) ⟨e, false, a0⟩) else V) := rfl
  by_cases hbad : mayE c ≠ 0 ∨ (e < 1 ∨ 1099511627776 < e)
  · obtain ⟨m, hm0, hme, hmc⟩ : ∃ m : Int, m ≠ 0 ∧ killErr V e c = m ∧ (if mayE c = 0 then (if e < 1 ∨ 1099511627776 < e then 1 else 0) else mayE c) = m := by
      unfold killErr
      by_cases h1 : mayE c = 0
      · have h2 := hbad.resolve_left (fun h => h h1)
        exact ⟨1, by decide, by rw [if_neg (by simpa using h1), if_pos h2], by rw [if_pos h1, if_pos h2]⟩
      · exact ⟨mayE c, h1, by rw [if_pos h1], by rw [if_neg h1]⟩
    rw [hmc] at HCk
    have HK := hid (show killS V e c = V by rw [HPS.out, hme, if_neg hm0])
    rw [hme]
    have t1 : (m != 0) = true := by simpa using hm0
    clear h hbad hm0 hme hmc
    go_enter Tryd.func10, Tryd.ntmps10
    go_wp2_with fail
    refine (HCk.out _).mono ?_
    rintro r w1 ⟨rfl, hf⟩
    have HF := hid ((alloc_fr w _ _).trans hf)
    clear hf
    go_wp2_with fail
    go_ret
    rw [HK.out]
    exact ⟨rfl, HLn.out _ HF.out⟩
  have hm : mayE c = 0 := Classical.byContradiction (fun h1 => hbad (Or.inl h1))
  have he : ¬ (e < 1 ∨ 1099511627776 < e) := fun h1 => hbad (Or.inr h1)
  rw [if_pos hm, if_neg he] at HCk
  have HEr : Hid (killErr V e c = gone (getV V c) e) := by
    show _ = _
    unfold killErr
    rw [if_neg (by simpa using hm), if_neg he]
  obtain ⟨B, gr, ge, T, M, h1, rfl, rfl⟩ := h
  have HI := hid h1
  have hSl := lt_of_block h1.cell
  have HFd := hid (fun (W : World) (hf : Fr w W (fun _ => False)) => find_any c W (h1.step hf) hm)
  have HM := hid hm
  have HE : Hid (1 ≤ e ∧ e ≤ 1099511627776) := by show _ ∧ _; omega
  clear h1 hk hm hbad he
  obtain ⟨v, k, s⟩ := c
  dsimp only at *
  go_enter Tryd.func10, Tryd.ntmps10
  go_wp2_with fail
  refine (HCk.out _).mono ?_
  rintro r w2 ⟨rfl, hf⟩
  have HR2 := hid ((hf.block w.heap.size (by simp) (fun h => h)).trans (heap_last _ _ _ rfl))
  have HF2 := hid ((alloc_fr w _ _).trans hf)
  clear hf HCk
  have hrl := lt_of_block HR2.out
  have HK := hid (fun (W' : World) (hf : Fr w2 W' (fun _ => False)) => (show W'.cell? ⟨S, 0, none⟩ = some (.pointer (some ⟨B, 0, none⟩)) ∧ W'.cell? ⟨w.heap.size, 0, none⟩ = some (.int .i64 v) ∧ W'.cell? ⟨w.heap.size, 1, none⟩ = some (.string k) ∧ W'.cell? ⟨w.heap.size, 2, none⟩ = some (.int .i64 s) from
    ⟨(cells5 ((HI.out.step (HF2.out.trans hf)).cell)).1.1, cells3 ((hf.block _ (lt_of_block HR2.out) (fun h => h)).trans HR2.out)⟩))
  obtain ⟨k0, k1, k2, k3⟩ := HK.out w2 (Fr.refl _ _)
  have HF := hid (Fr.refl w2 (fun _ => False))
  have hs2 := HF2.out.size
  go_wp2_with fail
  go_cut [8] (fun s8 wx => ∃ N8 ee, s8 = .pointer (some ⟨N8, 0, none⟩) ∧ Hid (RwAt wx N8 ⟨v, k, s, some ⟨ee.b, 0, none⟩⟩ ∧ w2.heap.size ≤ N8 ∧ Found w wx base M ⟨v, k, s⟩ ee ∧ Fr w2 wx (fun _ => False)))
  case first =>
    go_region_held3 (fun W' => Hid (Fr w2 W' (fun _ => False)) ∧ W'.cell? ⟨S, 0, none⟩ = some (.pointer (some ⟨B, 0, none⟩)) ∧ W'.cell? ⟨w.heap.size, 0, none⟩ = some (.int .i64 v) ∧ W'.cell? ⟨w.heap.size, 1, none⟩ = some (.string k) ∧ W'.cell? ⟨w.heap.size, 2, none⟩ = some (.int .i64 s))
      ((refine (fun h => ⟨h, HK.out _ h⟩ : Fr w2 _ (fun _ => False) → _) ?_; repeat (first | with_reducible exact HF.out | with_reducible exact Fr.refl _ _ | with_reducible apply Fr.drew | with_reducible apply Fr.alloc | (with_reducible refine Fr.setCell ?_ ?_ _; rotate_left; (intro h; exfalso; first | (dsimp only at h; omega) | (simp at h; omega))))))
      ((go_at_call 19; refine (HFd.out _ (HF2.out.trans (by repeat (first | with_reducible exact HF.out | with_reducible exact Fr.refl _ _ | with_reducible apply Fr.drew | with_reducible apply Fr.alloc)))).mono ?_; rintro r w3 ⟨ee, rfl, hfd⟩; unfold rwV; (try (have HZ := hid (RwAt.fr (by first | exact RwAt.new0 _ w2.heap.size rfl | exact RwAt.drew (RwAt.new0 _ w2.heap.size rfl)) hfd.2.2.2.1 (fun h => h)); obtain ⟨⟨z0, z1, z2, z3⟩, y0⟩ := HZ.out.cells; have HZn := hid (Nat.le_refl w2.heap.size); have hzl := lt_of_block HZ.out)); have HFo := hid (Found.pre hfd (HF2.out.trans (by repeat (first | with_reducible exact HF.out | with_reducible exact Fr.refl _ _ | with_reducible apply Fr.drew | with_reducible apply Fr.alloc)))); have HF := hid (Fr.trans (a := w2) (by repeat (first | with_reducible exact HF.out | with_reducible exact Fr.refl _ _ | with_reducible apply Fr.drew | with_reducible apply Fr.alloc)) hfd.2.2.2.1); have hs3 := HF.out.size; clear hfd))
    all_goals (go_wp2_with fail)
    all_goals go_meet
    · exact ⟨_, ee, rfl, hid ⟨RwAt.new _ ⟨v, k, s, some ⟨ee.b, 0, none⟩⟩ _ rfl, HF.out.size, HFo.out.step (alloc_fr _ _ _), HF.out.alloc _⟩⟩
    · have hq := set4_fr w3 w2.heap.size ⟨v, k, s, some ⟨ee.b, 0, none⟩⟩
      exact ⟨_, ee, rfl, hid ⟨RwAt.set HZ.out ⟨v, k, s, some ⟨ee.b, 0, none⟩⟩, Nat.le_refl _, HFo.out.beside hq ⟨_, HZ.out⟩ (by decide) (by decide) hs2, HF.out.trans2 hq (fun i hi e2 => by omega)⟩⟩
  case rest =>
    obtain ⟨N8, ee, rfl, HX⟩ := hcut
    obtain ⟨hRw, hN8, hfd, hFx⟩ := HX.out
    have HRw := hid hRw
    have HFo := hid hfd
    have hL : ee.L = getV (M.map pr) ⟨v, k, s⟩ := hfd.2.1
    have hlen : ee.L.length < 2000000 := by
      have h1 := (getV_nV (M.map pr) ⟨v, k, s⟩).1
      have h2 := HI.out.room
      have h3 := HI.out.sl
      unfold nU at h2
      rw [hL]
      omega
    have HBd := hid (fun (hw : gone ee.L e ≠ 0) => kill_bad e wc hfd.2.2.1 hw)
    have HGd := hid (G.kill_any e wc hfd.2.2.1 hlen (by have h1 := HI.out.lo S (Or.inl rfl); have h2 := hfd.2.2.2.1.size; omega))
    obtain ⟨⟨z0, z1, z2, z3⟩, _⟩ := hRw.cells
    have hzl := lt_of_block hRw
    have HL := hid hL
    have hsw := HFo.out.2.2.2.1.size
    clear hRw hfd hFx hL hlen k0 k1 k2 k3 HK HF HFd
    by_cases hg : gone ee.L e = 0
    · have HEE : Hid (killErr (M.map pr) e ⟨v, k, s⟩ = 0 ∧ killS (M.map pr) e ⟨v, k, s⟩ = setV (M.map pr) ⟨v, k, s⟩ (layL (getV (M.map pr) ⟨v, k, s⟩) ⟨e, false, a0⟩)) := by
        have h1 : killErr (M.map pr) e ⟨v, k, s⟩ = 0 := by rw [HEr.out, ← HL.out]; exact hg
        exact ⟨h1, by rw [HPS.out, h1, if_pos rfl]⟩
      obtain ⟨hw, ht⟩ := gone_zero hg
      have hMem : ee ∈ M ∧ ee.c = ⟨v, k, s⟩ := by
        rcases HFo.out.mem with h1 | ⟨h1, _, _⟩
        · exact h1
        · have h2 := getM_getV M ⟨v, k, s⟩
          rw [h1, ← HL.out] at h2
          rw [h2] at ht
          cases ht
      have HMem := hid hMem
      rw [show killN ee.L e = layN ee.L ⟨e, false, a0⟩ by unfold killN layN; rw [if_pos hg], hg, show killL ee.L e = layL ee.L ⟨e, false, a0⟩ by unfold killL; rw [if_pos hg]] at HGd
      have HNm := hid (kill_nums (V := M.map pr) (c := ⟨v, k, s⟩) (e := e) (by have := HFo.out.2.2.1.good; rw [HL.out] at this; exact this) HE.out (by rw [← HL.out]; exact ht))
      have hlay : 0 ≤ layN ee.L ⟨e, false, a0⟩ ∧ layN ee.L ⟨e, false, a0⟩ ≤ 1 := by unfold layN; split <;> omega
      have HnT : Hid (1 ≤ nT (M.map pr)) := by
        have h1 := (getV_nV (M.map pr) ⟨v, k, s⟩).2
        rw [← HL.out] at h1
        unfold th at h1
        rw [ht] at h1
        exact h1
      rw [← HL.out] at HNm HEE
      generalize hlm : layN ee.L ⟨e, false, a0⟩ = lm at *
      clear HBd hg hw ht hlm hMem
      go_wp2_with fail
      refine HGd.out.mono ?_
      rintro r w6 ⟨rfl, cv', hch6, hf6, hnw6⟩
      have HCh6 := hid hch6
      have HF6 := hid hf6
      have HNw6 := hid hnw6
      have HI5 := hid (HI.out.step HFo.out.2.2.2.1)
      have HKc := hid (ch_kd HFo.out.2.2.1)
      have hnm : ∀ {q t}, Kd wc q t → t ≠ 81 → t ≠ 77 → ¬ (q = ee.b ∨ ee.cv.ownBlock = some q) := by
        rintro q t hq h1 h2 (rfl | h3)
        · exact h1 (by
            obtain ⟨cs, h4⟩ := hq
            obtain ⟨cs', h5⟩ := HKc.out.1
            rw [h4] at h5
            simp only [Option.some.injEq, Obj.cells.injEq] at h5
            exact h5.2.1)
        · exact (HKc.out.2 q h3).ne hq (fun e3 => h2 e3.symm) rfl
      have HRw7 := hid (HRw.out.fr hf6 (hnm ⟨_, HRw.out⟩ (by decide) (by decide)))
      have hkT := tb_kd HI5.out.tb
      have HT6 := hid (HI5.out.tb.fr hf6 (by
        rintro b (rfl | rfl | hb)
        · exact hnm hkT.1 (by decide) (by decide)
        · exact hnm hkT.2.1 (by decide) (by decide)
        · exact hnm (hkT.2.2 b hb) (by decide) (by decide)))
      have HC7 := hid ((hf6.block S (lt_of_block HI5.out.cell) (hnm ⟨_, HI5.out.cell⟩ (by decide) (by decide))).trans HI5.out.cell)
      obtain ⟨⟨z0, z1, z2, z3⟩, _⟩ := HRw7.out.cells
      have hSl7 := lt_of_block HC7.out
      have hzl7 := lt_of_block HRw7.out
      have HS8 : Hid (N8 ≠ S) := by
        rintro rfl
        have h5 : w6.heap[N8]? = _ := HRw7.out
        rw [HC7.out] at h5
        simp at h5
      have hbd := HI.out.room
      have hsl := HI.out.sl
      unfold nU at hbd
      have HLe := hid (fun (W : World) (hf : Fr w6 W (fun _ => False)) => len_any W (HCh6.out.step hf))
      have HCt := hid (fun (W : World) (hf : Fr w6 W (fun _ => False)) => count_any (slots : Int) (nV (M.map pr) : Int) (nT (M.map pr) : Int) (mxV (M.map pr) : Int) lm (-1) ((layL ee.L ⟨e, false, a0⟩).length : Int) W ((hf.block S (lt_of_block HC7.out) (fun h => h)).trans HC7.out) (by unfold fits; omega) (by have := HnT.out; unfold fits; omega))
      have HK7 := hid (fun (W' : World) (hf : Fr w6 W' (fun b => b = S)) => (show W'.cell? ⟨N8, 3, none⟩ = some (.pointer (some ⟨ee.b, 0, none⟩)) from (HRw7.out.fr hf HS8.out).cells.1.2.2.2))
      have HF := hid (Fr.refl w6 (fun _ => False))
      have HFs := hid (Fr.refl w6 (fun b => b = S))
      clear hch6 hf6 hnw6 hnm hkT hbd hsl
      go_wp2_with fail
      go_region_held3 (fun W' => Hid (Fr w6 W' (fun b => b = S)) ∧ W'.cell? ⟨N8, 3, none⟩ = some (.pointer (some ⟨ee.b, 0, none⟩)))
        ((refine (fun h => ⟨h, HK7.out _ h⟩ : Fr w6 _ (fun b => b = S) → _) ?_; repeat (first | with_reducible exact HFs.out | with_reducible exact Fr.refl _ _ | with_reducible apply Fr.drew)))
        ((first
          | (go_at_call 25; refine (HLe.out _ (by repeat (first | with_reducible exact HF.out | with_reducible exact Fr.refl _ _ | with_reducible apply Fr.drew | with_reducible apply Fr.alloc))).mono ?_; rintro r w8 ⟨rfl, hw⟩; have HF := hid (show Fr w6 w8 (fun _ => False) from by rw [hw]; repeat (first | with_reducible exact HF.out | with_reducible exact Fr.refl _ _ | with_reducible apply Fr.drew | with_reducible apply Fr.alloc)); have HFs := hid (HF.out.mono (T := fun b => b = S) (fun _ _ h => h.elim)); clear hw)
          | (go_at_call 24; refine (HCt.out _ (by repeat (first | with_reducible exact HF.out | with_reducible exact Fr.refl _ _ | with_reducible apply Fr.drew | with_reducible apply Fr.alloc))).mono ?_; rintro r w9 ⟨rfl, hc9, hf9⟩; have HFs := hid (Fr.trans (a := w6) (HF.out.mono (T := fun b => b = S) (fun _ _ h => h.elim)) (Fr.trans (by repeat (first | with_reducible exact Fr.refl _ _ | with_reducible apply Fr.drew)) hf9)); have HC9 := hid hc9; clear hc9 hf9)))
      go_wp2_with fail
      go_ret
      rw [HEE.out.1, HEE.out.2]
      refine ⟨rfl, ?_⟩
      obtain ⟨n1, n2, n3, n4⟩ := HNm.out
      refine HI.out.laid (gr' := gr) (ge' := ge) (T' := T) HM.out HFo.out HF6.out HCh6.out HNw6.out HT6.out (fun b hb => Or.inl hb) (Fr.refl _ _) HI.out.inv ?_ ?_ HI.out.tlen ?_ HFs.out (layL_ne _ _) (by have := HI.out.room; omega)
      · intro q u
        constructor
        · intro hq
          obtain ⟨f, hf, rfl, rfl⟩ := (HI.out.has q u).1 hq
          by_cases hfc : f.c = ⟨v, k, s⟩
          · have := HI.out.same HMem.out.1 hf (hfc.trans HMem.out.2.symm)
            subst this
            exact Or.inl ⟨by rw [hfc], by rw [hfc]⟩
          · exact Or.inr ⟨fun e2 => hfc (key_inj (HI.out.may f hf) HM.out e2), hq⟩
        · rintro (⟨rfl, rfl⟩ | ⟨_, hq⟩)
          · exact (HI.out.has _ _).2 ⟨ee, HMem.out.1, by rw [HMem.out.2], by rw [HMem.out.2]⟩
          · exact hq
      · rw [setM_len, HI.out.keys]
        cases hgm : getM M ⟨v, k, s⟩ with
        | some q => rfl
        | none => exact absurd HMem.out.2 (getM_none hgm ee HMem.out.1)
      · rw [n1, n2, n3]
        exact HC9.out
    · have HEE : Hid (killErr (M.map pr) e ⟨v, k, s⟩ = gone ee.L e ∧ killS (M.map pr) e ⟨v, k, s⟩ = M.map pr) := by
        have h1 : killErr (M.map pr) e ⟨v, k, s⟩ = gone ee.L e := by rw [HEr.out, ← HL.out]
        exact ⟨h1, by rw [HPS.out, h1, if_neg hg]⟩
      have HB := hid (HBd.out hg)
      generalize gone ee.L e = m at *
      have t1 : (m != 0) = true := by simpa using hg
      clear HBd HGd hg
      go_wp2_with fail
      refine HB.out.mono ?_
      rintro r w6 ⟨rfl, hf⟩
      have HF6 := hid (HFo.out.2.2.2.1.trans hf)
      clear hf
      go_wp2_with fail
      go_ret
      rw [HEE.out.1, HEE.out.2]
      exact ⟨rfl, HLn.out _ HF6.out⟩
end Go.Proofs.YtcjadgnefojjgaaDoor.S
