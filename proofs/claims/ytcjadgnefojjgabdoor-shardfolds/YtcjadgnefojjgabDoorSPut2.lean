/- shard: Put, where nothing is wrong with the row: a walk. -/
import Derived.Test.YtcjadgnefojjgabDoorSPut
namespace Go.Proofs.YtcjadgnefojjgabDoor.S
open Go.RowKit G

theorem Found.beside {w w3 w4 : World} {base : Nat} {M : List Ent} {c : Cl} {e : Ent} (h : Found w w3 base M c e) {N : Nat} {t : TypeId} (hf : Fr w3 w4 (fun b => b = N)) (hk : Kd w3 N t) (h1 : t ≠ 91) (h2 : t ≠ 87) (hN : w.heap.size ≤ N) : Found w w4 base M c e := by
  have kc := ch_kd h.2.2.1
  exact ⟨h.1, h.2.1, h.2.2.1.fr hf (fun e2 => kc.1.ne hk (fun e3 => h1 e3.symm) e2) (fun k hk2 e2 => (kc.2 k hk2).ne hk (fun e3 => h2 e3.symm) e2), h.2.2.2.1.trans2 hf (fun i hi e2 => by omega), h.2.2.2.2⟩
theorem layL_ne (L : List Vn) (x : Vn) : layL L x ≠ [] := by unfold layL; split <;> simp
def set4 (w : World) (N : Nat) (x : R.Rw) : World := (((w.setCell ⟨N, 0, none⟩ (.int .i64 x.v)).setCell ⟨N, 1, none⟩ (.string x.k)).setCell ⟨N, 2, none⟩ (.int .i64 x.s)).setCell ⟨N, 3, none⟩ (.pointer x.p)
theorem set4_fr (w : World) (N : Nat) (x : R.Rw) : Fr w (set4 w N x) (fun b => b = N) := ((((Fr.refl w (fun b => b = N)).setCell (p := ⟨N, 0, none⟩) (fun _ => rfl) _).setCell (p := ⟨N, 1, none⟩) (fun _ => rfl) _).setCell (p := ⟨N, 2, none⟩) (fun _ => rfl) _).setCell (p := ⟨N, 3, none⟩) (fun _ => rfl) _

set_option maxHeartbeats 8000000 in
set_option maxRecDepth 100000 in
theorem put_ok {base S slots : Nat} {X : Nat → Prop} {V : Vw} (e : Int) (c : Cl) (a : A4) (w : World) (h : Sh w base S slots X V) (ha : fit4 a) (hm : mayE c = 0) (he : 1 ≤ e ∧ e ≤ 1099511627776) (hac : a.c ≠ 0) (hrt : rightA a = true) :
    Calls Tryd.prog 9 #[.pointer (some ⟨S, 0, none⟩), .int .i64 e, .agg #[.int .i64 c.v, .string c.k, .int .i64 c.s, .int .i64 a.c, .int .i64 a.s, .int .i64 a.m, .int .i64 a.x]] w fun r w' => r = .returned (.int .i64 (putErr V slots e c a)) ∧ Left w w' base S slots X (putS V slots e c a) := by
  have hk : c.k.size ≤ 9223372036854775807 := by have := (mayE_zero hm).2.1.2; omega
  have HCk := hid (fun W => check_any e c W hk)
  rw [if_pos hm, if_neg (by omega)] at HCk
  have HRt := hid (fun W => A.right_any ⟨a.c, a.s, a.m, a.x⟩ ⟨ha.1, ha.2.1, ha.2.2.1, ha.2.2.2⟩ W)
  rw [show A.rightB a.c a.s a.m a.x = true from hrt] at HRt
  have HSh := hid h
  have HEr : Hid (putErr V slots e c a = if e < (nw (getV V c)).e then 32 else if slots < nU V + needN (getV V c) e then 31 else 0) := by
    show _ = _
    unfold putErr
    rw [if_neg (by simpa using hm), if_neg (by omega), if_neg (by rw [hrt]; simpa using hac)]
  have HPS : Hid (putS V slots e c a = if putErr V slots e c a = 0 then setV V c (layL (getV V c) ⟨e, true, a⟩) else V) := rfl
  have t4 : (a.c == 0) = false := by simpa using hac
  have HLn : Hid (∀ w', Fr w w' (fun _ => False) → Left w w' base S slots X V) := fun w' hf => Left.none h hf
  obtain ⟨B, gr, ge, T, M, h1, rfl, rfl⟩ := h
  have HI := hid h1
  have hSl := lt_of_block h1.cell
  have HFd := hid (fun (W : World) (hf : Fr w W (fun _ => False)) => find_any c W (h1.step hf) hm)
  have HM := hid hm
  have HA := hid ha
  have HE := hid he
  clear h1 hk hac hrt hm
  obtain ⟨v, k, s⟩ := c
  dsimp only at *
  go_enter Tryd.func9, Tryd.ntmps9
  go_wp2_with fail
  refine (HCk.out _).mono ?_
  rintro r w1 ⟨rfl, hf⟩
  have HR1 : Hid (Ro7 w1 w.heap.size ⟨v, k, s⟩ a) := (hf.block w.heap.size (by simp) (fun h => h)).trans (heap_last _ _ _ rfl)
  obtain ⟨r0, r1, r2, r3, r4, r5, r6⟩ := HR1.out.cells
  have hrl := lt_of_block HR1.out
  have HF1 := hid ((alloc_fr w _ _).trans hf)
  clear hf HCk
  go_wp2_with fail
  refine (HRt.out _).mono ?_
  rintro r w2 ⟨rfl, hf⟩
  have HR2 := hid (HR1.out.fr hf (fun h => h))
  have HF2 := hid (HF1.out.trans hf)
  clear hf r0 r1 r2 r3 r4 r5 r6 hrl HRt HR1 HF1
  have hrl := lt_of_block HR2.out
  have HK := hid (fun (W' : World) (hf : Fr w2 W' (fun _ => False)) => (show W'.cell? ⟨S, 0, none⟩ = some (.pointer (some ⟨B, 0, none⟩)) ∧ W'.cell? ⟨w.heap.size, 0, none⟩ = some (.int .i64 v) ∧ W'.cell? ⟨w.heap.size, 1, none⟩ = some (.string k) ∧ W'.cell? ⟨w.heap.size, 2, none⟩ = some (.int .i64 s) from by
    obtain ⟨r0, r1, r2, _⟩ := (HR2.out.fr hf (fun h => h)).cells
    exact ⟨(cells5 ((HI.out.step (HF2.out.trans hf)).cell)).1.1, r0, r1, r2⟩))
  obtain ⟨k0, k1, k2, k3⟩ := HK.out w2 (Fr.refl _ _)
  have HF := hid (Fr.refl w2 (fun _ => False))
  have hs2 := HF2.out.size
  go_wp2_with fail
  go_cut [8] (fun s8 wx => ∃ N8 ee, s8 = .pointer (some ⟨N8, 0, none⟩) ∧ Hid (RwAt wx N8 ⟨v, k, s, some ⟨ee.b, 0, none⟩⟩ ∧ w2.heap.size ≤ N8 ∧ Found w wx base M ⟨v, k, s⟩ ee ∧ Fr w2 wx (fun _ => False)))
  case first =>
    go_region_held3 (fun W' => Hid (Fr w2 W' (fun _ => False)) ∧ W'.cell? ⟨S, 0, none⟩ = some (.pointer (some ⟨B, 0, none⟩)) ∧ W'.cell? ⟨w.heap.size, 0, none⟩ = some (.int .i64 v) ∧ W'.cell? ⟨w.heap.size, 1, none⟩ = some (.string k) ∧ W'.cell? ⟨w.heap.size, 2, none⟩ = some (.int .i64 s))
      ((refine (fun h => ⟨h, HK.out _ h⟩ : Fr w2 _ (fun _ => False) → _) ?_; repeat (first | with_reducible exact HF.out | with_reducible exact Fr.refl _ _ | with_reducible apply Fr.drew | with_reducible apply Fr.alloc | (with_reducible refine Fr.setCell ?_ ?_ _; rotate_left; (intro h; exfalso; first | (dsimp only at h; omega) | (simp at h; omega))))))
      ((go_at_call 16; refine (HFd.out _ (HF2.out.trans (by repeat (first | with_reducible exact HF.out | with_reducible exact Fr.refl _ _ | with_reducible apply Fr.drew | with_reducible apply Fr.alloc)))).mono ?_; rintro r w3 ⟨ee, rfl, hfd⟩; unfold rwV; (try (have HZ := hid (RwAt.fr (by first | exact RwAt.new0 _ w2.heap.size rfl | exact RwAt.drew (RwAt.new0 _ w2.heap.size rfl)) hfd.2.2.2.1 (fun h => h)); obtain ⟨⟨z0, z1, z2, z3⟩, y0⟩ := HZ.out.cells; have HZn := hid (Nat.le_refl w2.heap.size); have hzl := lt_of_block HZ.out)); have HFo := hid (Found.pre hfd (HF2.out.trans (by repeat (first | with_reducible exact HF.out | with_reducible exact Fr.refl _ _ | with_reducible apply Fr.drew | with_reducible apply Fr.alloc)))); have HF := hid (Fr.trans (a := w2) (by repeat (first | with_reducible exact HF.out | with_reducible exact Fr.refl _ _ | with_reducible apply Fr.drew | with_reducible apply Fr.alloc)) hfd.2.2.2.1); have hs3 := HF.out.size; clear hfd))
    all_goals (go_wp2_with fail)
    all_goals go_meet
    · exact ⟨_, ee, rfl, hid ⟨RwAt.new _ ⟨v, k, s, some ⟨ee.b, 0, none⟩⟩ _ rfl, HF.out.size, HFo.out.step (alloc_fr _ _ _), HF.out.alloc _⟩⟩
    · have hq := set4_fr w3 w2.heap.size ⟨v, k, s, some ⟨ee.b, 0, none⟩⟩
      exact ⟨_, ee, rfl, hid ⟨RwAt.set HZ.out ⟨v, k, s, some ⟨ee.b, 0, none⟩⟩, Nat.le_refl _, HFo.out.beside hq ⟨_, HZ.out⟩ (by decide) (by decide) hs2, HF.out.trans2 hq (fun i hi e2 => by omega)⟩⟩
  case rest =>
    obtain ⟨N8, ee, rfl, HX⟩ := hcut
    obtain ⟨hRw, hN8, hfd, hFx⟩ := HX.out
    have HRw := hid hRw
    have HFo := hid hfd
    have HFx := hid hFx
    have hL : ee.L = getV (M.map pr) ⟨v, k, s⟩ := hfd.2.1
    have HNd := hid (fun (W : World) (hf : Fr wc W (fun _ => False)) => need_any ⟨v, k, s⟩ e W (hfd.2.2.1.step hf))
    unfold rwV at HNd
    rw [hL] at HNd
    dsimp only at HNd
    have HFt := hid (fun (W : World) (hf : Fr wc W (fun _ => False)) => fits_any (needN (getV (M.map pr) ⟨v, k, s⟩) e) (by have := needN_le (getV (M.map pr) ⟨v, k, s⟩) e; omega) W (HSh.out.step (hfd.2.2.2.1.trans hf)))
    have HR := hid (HR2.out.fr hFx (fun h => h))
    have hlen : ee.L.length < 2000000 := by
      have h1 := (getV_nV (M.map pr) ⟨v, k, s⟩).1
      have h2 := HI.out.room
      have h3 := HI.out.sl
      unfold nU at h2
      rw [hL]
      omega
    have HBd := hid (fun (W : World) (hf : Fr wc W (fun _ => False)) (hw : wrong ee.L e ≠ 0) => put_bad e a W (hfd.2.2.1.step hf) hw)
    have HGd := hid (fun (W : World) (hf : Fr wc W (fun _ => False)) => put_any e a W (hfd.2.2.1.step hf) HA.out hlen (by have h1 := HI.out.lo S (Or.inl rfl); have h2 := (hfd.2.2.2.1.trans hf).size; omega))
    obtain ⟨⟨z0, z1, z2, z3⟩, _⟩ := hRw.cells
    have hzl := lt_of_block hRw
    have HL := hid hL
    have hsw := HFo.out.2.2.2.1.size
    clear hRw hfd hFx hL hlen k0 k1 k2 k3 HK HF HFd
    go_wp2_with fail
    refine (HNd.out _ (Fr.refl _ _)).mono ?_
    rintro r w4 ⟨rfl, hf⟩
    have HF4 := hid hf
    clear hf HNd
    go_wp2_with fail
    refine (HFt.out _ HF4.out).mono ?_
    rintro r w5 ⟨rfl, hf⟩
    have HF5 := hid (HF4.out.trans hf)
    clear hf HFt
    by_cases hold : e < (nw (getV (M.map pr) ⟨v, k, s⟩)).e
    · have hn0 : needN (getV (M.map pr) ⟨v, k, s⟩) e = 0 := by unfold needN; rw [if_pos hold]
      have hw : wrong ee.L e = 32 := by unfold wrong; rw [HL.out, if_neg (by have := HE.out; omega), if_pos hold]
      have hee : putErr (M.map pr) slots e ⟨v, k, s⟩ a = 32 := by rw [HEr.out, if_pos hold]
      have hps : putS (M.map pr) slots e ⟨v, k, s⟩ a = M.map pr := by rw [HPS.out, hee]; rfl
      have HEE := hid (And.intro hee hps)
      rw [show decide (nU (M.map pr) + needN (getV (M.map pr) ⟨v, k, s⟩) e ≤ slots) = true by rw [hn0]; simpa using HI.out.room]
      have HB := hid (HBd.out w5 HF5.out (by rw [hw]; decide))
      rw [hw] at HB
      obtain ⟨⟨z0, z1, z2, z3⟩, _⟩ := (HRw.out.fr HF5.out (fun h => h)).cells
      obtain ⟨r0, r1, r2, r3, r4, r5, r6⟩ := (HR.out.fr HF5.out (fun h => h)).cells
      have hzl5 := lt_of_block (HRw.out.fr HF5.out (fun h => h))
      have hrl5 := lt_of_block (HR.out.fr HF5.out (fun h => h))
      clear HBd HGd hold hn0 hw hee hps
      go_wp2_with fail
      refine HB.out.mono ?_
      rintro r w6 ⟨rfl, hf⟩
      have HF6 := hid (HFo.out.2.2.2.1.trans (HF5.out.trans hf))
      clear hf
      go_wp2_with fail
      go_ret
      rw [HEE.out.1, HEE.out.2]
      exact ⟨rfl, HLn.out _ HF6.out⟩
    by_cases hfull : slots < nU (M.map pr) + needN (getV (M.map pr) ⟨v, k, s⟩) e
    · have hee : putErr (M.map pr) slots e ⟨v, k, s⟩ a = 31 := by rw [HEr.out, if_neg hold, if_pos hfull]
      have hps : putS (M.map pr) slots e ⟨v, k, s⟩ a = M.map pr := by rw [HPS.out, hee]; rfl
      have HEE := hid (And.intro hee hps)
      rw [show decide (nU (M.map pr) + needN (getV (M.map pr) ⟨v, k, s⟩) e ≤ slots) = false by simpa using hfull]
      have HF6 := hid (HFo.out.2.2.2.1.trans HF5.out)
      clear HBd HGd hold hfull hee hps
      go_wp2_with fail
      go_ret
      rw [HEE.out.1, HEE.out.2]
      exact ⟨rfl, HLn.out _ HF6.out⟩
    have hee : putErr (M.map pr) slots e ⟨v, k, s⟩ a = 0 := by rw [HEr.out, if_neg hold, if_neg hfull]
    have hps : putS (M.map pr) slots e ⟨v, k, s⟩ a = setV (M.map pr) ⟨v, k, s⟩ (layL (getV (M.map pr) ⟨v, k, s⟩) ⟨e, true, a⟩) := by rw [HPS.out, hee, if_pos rfl]
    have HEE := hid (And.intro hee hps)
    rw [show decide (nU (M.map pr) + needN (getV (M.map pr) ⟨v, k, s⟩) e ≤ slots) = true by simpa using hfull]
    have hw : wrong ee.L e = 0 := by unfold wrong; rw [HL.out, if_neg (by have := HE.out; omega), if_neg hold]
    have hle : (nw ee.L).e ≤ e := by rw [HL.out]; omega
    have HG := hid (HGd.out w5 HF5.out)
    rw [show putN ee.L e = layN ee.L ⟨e, true, a⟩ by unfold putN layN; rw [if_pos hw], hw, show putL ee.L e a = layL ee.L ⟨e, true, a⟩ by unfold putL; rw [if_pos hw]] at HG
    have HNm := hid (put_nums (V := M.map pr) (c := ⟨v, k, s⟩) (e := e) (a := a) (by have := HFo.out.2.2.1.good; rw [HL.out] at this; exact this) HE.out HA.out (by omega))
    have HRm : Hid (nU (M.map pr) + needN (getV (M.map pr) ⟨v, k, s⟩) e ≤ slots) := by show _ ≤ _; omega
    obtain ⟨⟨z0, z1, z2, z3⟩, _⟩ := (HRw.out.fr HF5.out (fun h => h)).cells
    obtain ⟨r0, r1, r2, r3, r4, r5, r6⟩ := (HR.out.fr HF5.out (fun h => h)).cells
    have hzl5 := lt_of_block (HRw.out.fr HF5.out (fun h => h))
    have hrl5 := lt_of_block (HR.out.fr HF5.out (fun h => h))
    have hlay : 0 ≤ layN ee.L ⟨e, true, a⟩ ∧ layN ee.L ⟨e, true, a⟩ ≤ 1 := by unfold layN; split <;> omega
    rw [← HL.out] at HNm HRm HEE
    generalize hlm : layN ee.L ⟨e, true, a⟩ = lm at *
    rw [show needN (getV (M.map pr) ⟨v, k, s⟩) e = needN ee.L e by rw [HL.out]]
    have hn2 : (needN ee.L e : Int) ≤ 2 := by have := needN_le ee.L e; omega
    generalize hnn : needN ee.L e = n at *
    have HFo5 := hid (HFo.out.step HF5.out)
    have HRw5 := hid (HRw.out.fr HF5.out (fun h => h))
    clear HBd HGd hold hfull hee hps hw hle hlm hnn
    go_wp2_with fail
    refine HG.out.mono ?_
    rintro r w6 ⟨rfl, cv', hch6, hf6, hnw6⟩
    have HCh6 := hid hch6
    have HF6 := hid hf6
    have HNw6 := hid hnw6
    have HI5 := hid (HI.out.step HFo5.out.2.2.2.1)
    have HKc := hid (ch_kd HFo5.out.2.2.1)
    have hnm : ∀ {q t}, Kd w5 q t → t ≠ 91 → t ≠ 87 → ¬ (q = ee.b ∨ ee.cv.ownBlock = some q) := by
      rintro q t hq h1 h2 (rfl | h3)
      · exact h1 (by
          obtain ⟨cs, h4⟩ := hq
          obtain ⟨cs', h5⟩ := HKc.out.1
          rw [h4] at h5
          simp only [Option.some.injEq, Obj.cells.injEq] at h5
          exact h5.2.1)
      · exact (HKc.out.2 q h3).ne hq (fun e3 => h2 e3.symm) rfl
    have HRw6 := hid (HRw5.out.fr hf6 (hnm ⟨_, HRw5.out⟩ (by decide) (by decide)))
    have hkT := tb_kd HI5.out.tb
    have HbN : Hid (∀ b, R.bl B gr ge b → ¬ (b = ee.b ∨ ee.cv.ownBlock = some b)) := by
      rintro b (rfl | rfl | hb)
      · exact hnm hkT.1 (by decide) (by decide)
      · exact hnm hkT.2.1 (by decide) (by decide)
      · exact hnm (hkT.2.2 b hb) (by decide) (by decide)
    have HT6 := hid (HI5.out.tb.fr hf6 HbN.out)
    have hgn : ¬ (gM = ee.b ∨ ee.cv.ownBlock = some gM) := by
      have h1 := HI.out.gb
      rintro (h2 | h2)
      · rcases HFo.out.mem with ⟨h3, _⟩ | ⟨_, h3, _⟩
        · have := HI.out.lo _ (Or.inr (Or.inr ⟨ee, h3, Or.inl h2⟩)); omega
        · have := HI.out.gl.lt; omega
      · rcases HFo.out.mem with ⟨h3, _⟩ | ⟨_, _, h3⟩
        · have := HI.out.lo _ (Or.inr (Or.inr ⟨ee, h3, Or.inr h2⟩)); omega
        · rw [h3] at h2; simp [Value.ownBlock] at h2
    have HG6 := hid (HI5.out.gl.fr hf6 hgn)
    have HC6 := hid ((hf6.block S (lt_of_block HI5.out.cell) (hnm ⟨_, HI5.out.cell⟩ (by decide) (by decide))).trans HI5.out.cell)
    have HKp := hid (fun (W : World) (hf : Fr w6 W (fun _ => False)) => keep_any ⟨v, k, s⟩ ee.b W (HT6.out.step hf) HI.out.inv (by have := HI.out.tlen; omega) (HG6.out.fr hf (fun h => h)) HM.out)
    have HbS : Hid (¬ R.bl B gr ge S) := by
      have hkS : Kd w5 S 53 := ⟨_, HI5.out.cell⟩
      rintro (h1 | h1 | h1)
      · exact hkS.ne hkT.1 (by decide) h1
      · exact hkS.ne hkT.2.1 (by decide) h1
      · exact hkS.ne (hkT.2.2 S h1) (by decide) rfl
    have Hb8 : Hid (¬ R.bl B gr ge N8) := by
      have hk8 : Kd w5 N8 60 := ⟨_, HRw5.out⟩
      rintro (h1 | h1 | h1)
      · exact hk8.ne hkT.1 (by decide) h1
      · exact hk8.ne hkT.2.1 (by decide) h1
      · exact hk8.ne (hkT.2.2 N8 h1) (by decide) rfl
    unfold rwV at HKp
    dsimp only at HKp
    have HK := hid (fun (W' : World) (hf : Fr w6 W' (R.bl B gr ge)) => (show W'.cell? ⟨S, 0, none⟩ = some (.pointer (some ⟨B, 0, none⟩)) ∧ W'.cell? ⟨N8, 0, none⟩ = some (.int .i64 v) ∧ W'.cell? ⟨N8, 1, none⟩ = some (.string k) ∧ W'.cell? ⟨N8, 2, none⟩ = some (.int .i64 s) ∧ W'.cell? ⟨N8, 3, none⟩ = some (.pointer (some ⟨ee.b, 0, none⟩)) from
      ⟨(cells5 ((hf.block S (lt_of_block HC6.out) HbS.out).trans HC6.out)).1.1, (HRw6.out.fr hf Hb8.out).cells.1⟩))
    obtain ⟨k0, k1, k2, k3, k4⟩ := HK.out w6 (Fr.refl _ _)
    have HF := hid (Fr.refl w6 (fun _ => False))
    have HFq := hid (Fr.refl w6 (R.bl B gr ge))
    have hSl6 := lt_of_block HC6.out
    have hzl6 := lt_of_block HRw6.out
    clear hch6 hf6 hnw6 hnm hkT hgn z0 z1 z2 z3 r0 r1 r2 r3 r4 r5 r6
    go_wp2_with fail
    go_region_held3 (fun W' => Hid (Fr w6 W' (R.bl B gr ge)) ∧ W'.cell? ⟨S, 0, none⟩ = some (.pointer (some ⟨B, 0, none⟩)) ∧ W'.cell? ⟨N8, 0, none⟩ = some (.int .i64 v) ∧ W'.cell? ⟨N8, 1, none⟩ = some (.string k) ∧ W'.cell? ⟨N8, 2, none⟩ = some (.int .i64 s) ∧ W'.cell? ⟨N8, 3, none⟩ = some (.pointer (some ⟨ee.b, 0, none⟩)))
      ((refine (fun h => ⟨h, HK.out _ h⟩ : Fr w6 _ (R.bl B gr ge) → _) ?_; repeat (first | with_reducible exact HFq.out | with_reducible exact Fr.refl _ _ | with_reducible apply Fr.drew)))
      ((go_at_call 20; refine (HKp.out _ (by repeat (first | with_reducible exact HF.out | with_reducible exact Fr.refl _ _ | with_reducible apply Fr.drew | with_reducible apply Fr.alloc))).mono ?_; rintro r w7 ⟨rfl, ⟨g1, g2, ht, hnb⟩, hf7⟩; have HFq := hid (Fr.trans (a := w6) (by repeat (first | with_reducible exact Fr.refl _ _ | with_reducible apply Fr.drew)) hf7); have HT7 := hid ht; have HNb := hid (show R.Nb w6 B gr ge g1 g2 from hnb); clear ht hnb hf7))
    have HF7 := HFq
    have hkc6 := ch_kd HCh6.out
    have hkT6 := tb_kd HT6.out
    have hnb : ∀ {q t}, Kd w6 q t → t ≠ 97 → t ≠ 113 → ¬ R.bl B gr ge q := by
      rintro q t hq h1 h2 (rfl | rfl | h3)
      · exact hq.ne hkT6.1 h1 rfl
      · exact hq.ne hkT6.2.1 h2 rfl
      · exact hq.ne (hkT6.2.2 q h3) h2 rfl
    have HCh7 := hid (HCh6.out.fr HF7.out (hnb hkc6.1 (by decide) (by decide)) (fun k hk => hnb (hkc6.2 k hk) (by decide) (by decide)))
    have HC7 := hid ((HF7.out.block S (lt_of_block HC6.out) HbS.out).trans HC6.out)
    have HRw7 := hid (HRw6.out.fr HF7.out Hb8.out)
    obtain ⟨⟨z0, z1, z2, z3⟩, _⟩ := HRw7.out.cells
    have hSl7 := lt_of_block HC7.out
    have hzl7 := lt_of_block HRw7.out
    have HS8 : Hid (N8 ≠ S) := by
      rintro rfl
      have h5 : w7.heap[N8]? = _ := HRw7.out
      rw [HC7.out] at h5
      simp at h5
    have hbd := HI.out.room
    have hsl := HI.out.sl
    have hmx : mxV (M.map pr) ≤ 1048576 := by
      have : ∀ V : Vw, mxV V ≤ nV V := by
        intro V
        induction V with
        | nil => exact Nat.le_refl _
        | cons x r ih => simp only [mxV, nV]; omega
      have h1 := this (M.map pr)
      unfold nU at hbd
      omega
    unfold nU at hbd
    have HLe := hid (fun (W : World) (hf : Fr w7 W (fun _ => False)) => len_any W (HCh7.out.step hf))
    have hwr : IntKind.i64.wrap ((n : Int) - lm) = (n : Int) - lm := wrap_fit (by unfold fits; omega)
    have HCt := hid (fun (W : World) (hf : Fr w7 W (fun _ => False)) => (show Calls Tryd.prog 21 #[.pointer (some ⟨S, 1, none⟩), .int .i64 lm, .int .i64 (IntKind.i64.wrap ((n : Int) - lm)), .int .i64 ((layL ee.L ⟨e, true, a⟩).length : Int)] W fun e' w' => e' = .returned (.tuple #[]) ∧ w'.heap[S]? = some (.cells #[.pointer (some ⟨B, 0, none⟩), .int .i64 (slots : Int), .int .i64 ((nV (M.map pr) : Int) + lm), .int .i64 ((nT (M.map pr) : Int) + ((n : Int) - lm)), .int .i64 (max (mxV (M.map pr) : Int) ((layL ee.L ⟨e, true, a⟩).length : Int))] 53 (0, 0)) ∧ Fr W w' (fun k => k = S) from by
      rw [hwr]
      exact count_any (slots : Int) (nV (M.map pr) : Int) (nT (M.map pr) : Int) (mxV (M.map pr) : Int) lm ((n : Int) - lm) ((layL ee.L ⟨e, true, a⟩).length : Int) W ((hf.block S (lt_of_block HC7.out) (fun h => h)).trans HC7.out) (by unfold fits; omega) (by unfold fits; omega)))
    have HK7 := hid (fun (W' : World) (hf : Fr w7 W' (fun b => b = S)) => (show W'.cell? ⟨N8, 3, none⟩ = some (.pointer (some ⟨ee.b, 0, none⟩)) from (HRw7.out.fr hf HS8.out).cells.1.2.2.2))
    have HF := hid (Fr.refl w7 (fun _ => False))
    have HFs := hid (Fr.refl w7 (fun b => b = S))
    clear hwr hkc6 hkT6 hnb hbd hsl hmx k0 k1 k2 k3 k4 HFq HK HKp
    go_wp2_with fail
    go_region_held3 (fun W' => Hid (Fr w7 W' (fun b => b = S)) ∧ W'.cell? ⟨N8, 3, none⟩ = some (.pointer (some ⟨ee.b, 0, none⟩)))
      ((refine (fun h => ⟨h, HK7.out _ h⟩ : Fr w7 _ (fun b => b = S) → _) ?_; repeat (first | with_reducible exact HFs.out | with_reducible exact Fr.refl _ _ | with_reducible apply Fr.drew)))
      ((first
        | (go_at_call 22; refine (HLe.out _ (by repeat (first | with_reducible exact HF.out | with_reducible exact Fr.refl _ _ | with_reducible apply Fr.drew | with_reducible apply Fr.alloc))).mono ?_; rintro r w8 ⟨rfl, hw⟩; have HF := hid (show Fr w7 w8 (fun _ => False) from by rw [hw]; repeat (first | with_reducible exact HF.out | with_reducible exact Fr.refl _ _ | with_reducible apply Fr.drew | with_reducible apply Fr.alloc)); have HFs := hid (HF.out.mono (T := fun b => b = S) (fun _ _ h => h.elim)); clear hw)
        | (go_at_call 21; refine (HCt.out _ (by repeat (first | with_reducible exact HF.out | with_reducible exact Fr.refl _ _ | with_reducible apply Fr.drew | with_reducible apply Fr.alloc))).mono ?_; rintro r w9 ⟨rfl, hc9, hf9⟩; have HFs := hid (Fr.trans (a := w7) (HF.out.mono (T := fun b => b = S) (fun _ _ h => h.elim)) (Fr.trans (by repeat (first | with_reducible exact Fr.refl _ _ | with_reducible apply Fr.drew)) hf9)); have HC9 := hid hc9; clear hc9 hf9)))
    go_wp2_with fail
    go_ret
    rw [HEE.out.1, HEE.out.2]
    refine ⟨rfl, ?_⟩
    obtain ⟨n1, n2, n3, n4⟩ := HNm.out
    have hkp := HI.out.kept (c := ⟨v, k, s⟩) HM.out ee.b cv' (layL ee.L ⟨e, true, a⟩)
    refine HI.out.laid HM.out HFo5.out HF6.out HCh6.out HNw6.out HT7.out HNb.out HF7.out hkp.1 hkp.2.1 hkp.2.2.1 hkp.2.2.2 ?_ HFs.out (layL_ne _ _) (by rw [n4]; exact HRm.out)
    rw [n1, n2, n3]
    exact HC9.out
end Go.Proofs.YtcjadgnefojjgabDoor.S
