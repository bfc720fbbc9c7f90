/- told: the walk. -/
import Derived.Test.YtekooeekaigmaaaEP13
namespace Go.Proofs.Ytekooeekaigmaaa.E
open Go.RowKit Go.Maps Go.MuLone

/-- The same but for the set 65. -/
structure Sm (b' b : Bo) : Prop where
  pins : b'.pins = b.pins
  now : b'.now = b.now
  begun : b'.begun = b.begun
  inn : b'.inn = b.inn
  sets : ∀ i, i ≠ 65 → b'.sets i = b.sets i
theorem Sm.refl (b : Bo) : Sm b b := ⟨rfl, rfl, rfl, rfl, fun _ _ => rfl⟩
theorem rel_sm (b : Bo) (o e : Int) : Sm (relB b o e) (relR b o e) := by
  unfold relB relR
  by_cases h : relErr b o e = 0
  · rw [if_pos h, if_pos h]
    exact ⟨loose_pins _ _, loose_now _ _, loose_begun _ _, loose_inn _ _, fun i hi => loose_sets _ _ hi⟩
  · rw [if_neg h, if_neg h]
    exact Sm.refl b
theorem done_sm (b : Bo) (o : Int) : Sm (doneB b o) (doneR b o) := by
  unfold doneB doneR
  by_cases h : doneErr b o = 0
  · rw [if_pos h, if_pos h]
    exact ⟨loose_pins _ _, loose_now _ _, loose_begun _ _, rfl, fun i hi => loose_sets _ _ hi⟩
  · rw [if_neg h, if_neg h]
    exact Sm.refl b
theorem folds_pins : ∀ (L : List Int) (b : Bo), (L.foldl loose b).pins = b.pins
  | [], _ => rfl
  | e :: L, b => by rw [List.foldl_cons, folds_pins L, loose_pins]
theorem drop_sm (b : Bo) (o : Int) : Sm (dropB b o) (dropR b o) := by
  cases hm0 : may o with
  | false =>
    unfold dropB dropR
    rw [if_pos hm0, if_pos hm0]
    exact Sm.refl b
  | true =>
    have g := Lg.folds (lst b o.toNat) (cleared b o.toNat)
    have e1 : (dropR b o).sets = upd b.sets o.toNat [] ∧ (dropR b o).inn = upd b.inn o.toNat 0 ∧ (dropR b o).pins = b.pins ∧ (dropR b o).now = b.now ∧ (dropR b o).begun = b.begun := by
      unfold dropR
      rw [if_neg (by simp [hm0])]
      unfold doneR
      by_cases h : doneErr (clrS b o.toNat) o = 0
      · rw [if_pos h]
        exact ⟨rfl, rfl, rfl, rfl, rfl⟩
      · rw [if_neg h]
        refine ⟨rfl, ?_, rfl, rfl, rfl⟩
        have hz : b.inn o.toNat = 0 := by
          by_cases h0 : b.inn o.toNat = 0
          · exact h0
          · exfalso
            apply h
            unfold doneErr
            rw [if_neg (by simp [hm0])]
            exact if_neg h0
        funext i
        by_cases e : i = o.toNat
        · subst e; rw [upd_same]; exact hz
        · rw [upd_other _ _ e]; rfl
    have eB : dropB b o = (lst b o.toNat).foldl loose (cleared b o.toNat) := by unfold dropB; rw [if_neg (by simp [hm0])]
    rw [eB]
    refine ⟨(folds_pins _ _).trans e1.2.2.1.symm, g.now.trans e1.2.2.2.1.symm, g.begun.trans e1.2.2.2.2.symm, g.inn.trans e1.2.1.symm, fun i hi => ?_⟩
    rw [g.sets i hi, e1.1]
    rfl
theorem begin_sm {b : Bo} (w : Wf b) (j : Jb b) : Sm (beginB b) (begR b (dyingL b)) := by
  unfold beginB begR
  cases hb : b.begun with
  | true =>
    rw [if_pos rfl, if_pos rfl]
    exact Sm.refl b
  | false =>
    rw [if_neg (by simp), if_neg (by simp), dying_65 w j hb]
    refine ⟨rfl, rfl, rfl, rfl, fun i hi => ?_⟩
    dsimp only
    rw [upd_other _ _ hi]
theorem same_die {b b' : Bo} (w : Wf b) (j : Jb b) (w' : Wf b') (j' : Jb b') (h : ∀ x, dm b' x ↔ dm b x) : dyingL b = dyingL b' := die_eq w' j' (ri_dying w j) (fun x => mem_dying.trans (h x).symm)
theorem seal_die {b : Bo} (w : Wf b) (j : Jb b) {o : Int} (w' : Wf (sealB b o)) : dyingL b = dyingL (sealB b o) := by
  by_cases he : sealErr b o = 0
  · have r := j.sealS w he
    exact same_die w j w' r.1 r.2.1.d
  · unfold sealB; rw [if_neg he]
theorem inn_die {b : Bo} (w : Wf b) (j : Jb b) {o : Int} (w' : Wf (innB b o)) : dyingL b = dyingL (innB b o) := by
  by_cases he : innErr b o = 0
  · have r := j.innS w he
    exact same_die w j w' r.1 r.2.1.d
  · unfold innB; rw [if_neg he]
theorem join_die {b : Bo} (w : Wf b) (j : Jb b) {o e : Int} (w' : Wf (joinB b o e)) : dyingL b = dyingL (joinB b o e) := by
  by_cases he : joinErr b o e = 0
  · have r := j.joinS he
    refine same_die w j w' r.1 (fun x => ⟨fun h => ?_, r.2.1.d1 x⟩)
    rcases r.2.1.d2 x h with h' | h'
    · exact h'
    · rcases r.2.1.h2 x h' with h2 | h2
      · exact absurd h (r.1.a x h2)
      · exfalso
        have hm0 : may o = true := by
          unfold joinErr at he
          by_cases h : may o = false
          · rw [if_pos h] at he; omega
          · simpa using h
        obtain ⟨o1, o2, o3⟩ := may_nat hm0
        refine j.a x h' ?_
        unfold joinB at h2
        rw [if_pos he] at h2
        unfold dm at h2 ⊢
        dsimp only at h2
        rw [upd_other _ _ (fun e => o2 e.symm), upd_other _ _ (fun e => o3 e.symm)] at h2
        exact h2
  · unfold joinB; rw [if_neg he]
theorem Pr.wfP {w W : World} {B C S I base N : Nat} {s : Stp} {bP bR : Bo} {dR : List Int} (h : Pr w W B C S I base N s bP bR dR) : Wf bP := by obtain ⟨⟨m, h, _⟩, _⟩ := h; exact h.wf
theorem Pr.to {w W : World} {B C S I base N : Nat} {s : Stp} {b' bR : Bo} {dR : List Int} (h : Pr w W B C S I base N s b' bR dR) (hs : Sm b' bR) (hd : dR = dyingL b') (j : Jb b') : Pm w W B C S I base b' :=
  (h.swap hs.pins hs.now hs.begun hs.inn hs.sets hd).pm j

set_option maxHeartbeats 4000000 in
set_option maxRecDepth 100000 in
theorem told_any {w W : World} {B C S I base : Nat} {b : Bo} (h : Pm w W B C S I base b) (s : Stp) (hs : s.fits) :
    Calls Try.prog 13 #[.pointer (some ⟨B, 0, none⟩), .pointer (some ⟨C, 0, none⟩), .agg #[.int .i64 s.k, .int .i64 s.o, .int .i64 s.e, .bool s.l]] W fun x w' => x = .returned (.bool true) ∧ Pm w w' B C S I base (doB b s) := by
  obtain ⟨sk, so, sx, sl⟩ := s
  dsimp only
  have HJ := hid h.2.2.2.2
  have HWb : Hid (Wf b) := by obtain ⟨⟨m, h1, _⟩, _⟩ := h; exact h1.wf
  have HE := hid (of_fits hs b.now)
  have HDl := hid (die_len HWb.out HJ.out)
  have HJ' := hid (ev_any HWb.out HJ.out ⟨sk, so, sx, sl⟩).1
  have HP : Hid (Pr w (W.alloc (.cells #[.int .i64 sk, .int .i64 so, .int .i64 sx, .bool sl] 32)) B C S I base W.heap.size ⟨sk, so, sx, sl⟩ b b (dyingL b)) := by
    have hf := alloc_fr W (.cells #[.int .i64 sk, .int .i64 so, .int .i64 sx, .bool sl] 32) (fun _ => False)
    obtain ⟨⟨m, h1, h2⟩, ⟨sv, vD, vW, h3⟩, h5, h6, _⟩ := h
    exact ⟨⟨m, h1.step hf, h2⟩, ⟨sv, vD, vW, h3.step hf⟩, Bl.new W ⟨sk, so, sx, sl⟩, h5, h6.trans hf⟩
  have HOf : Hid (∀ V, Calls Try.prog 24 #[.agg #[.int .i64 sk, .int .i64 so, .int .i64 sx, .bool sl], .int .i64 b.now] V fun e w' => e = .returned (.int .i64 (ofE ⟨sk, so, sx, sl⟩ b.now)) ∧ Fr V w' (fun _ => False)) := fun V => of_any ⟨sk, so, sx, sl⟩ b.now V
  clear h
  go_enter Try.func13, Try.ntmps13
  go_wp2_with fail
  generalize W.alloc (.cells #[.int .i64 sk, .int .i64 so, .int .i64 sx, .bool sl] 32) = wb at *
  generalize W.heap.size = N at *
  have HHd : Hid (∀ V bP bR dR, Pr w V B C S I base N ⟨sk, so, sx, sl⟩ bP bR dR → (V.cell? ⟨N, 0, none⟩ = some (.int .i64 sk) ∧ V.cell? ⟨N, 1, none⟩ = some (.int .i64 so) ∧ V.cell? ⟨N, 2, none⟩ = some (.int .i64 sx) ∧ V.cell? ⟨N, 3, none⟩ = some (.bool sl)) ∧ V.cell? ⟨C, 1, none⟩ = some (.int .i64 bR.now) ∧ N < V.heap.size ∧ C < V.heap.size) := fun V bP bR dR hp => by
    obtain ⟨_, ⟨sv, vD, vW, h3⟩, h4, _⟩ := hp
    exact ⟨h4.cells, h3.cells.2.1, h4.lt, lt_of_block h3.cell⟩
  show Code.wp _ _ _ _ _
  generalize hEE : ofE ⟨sk, so, sx, sl⟩ b.now = e at *
  have HEE := hid hEE
  clear hEE
  go_cut [7] (fun s7 wx => s7 = .int .i64 e ∧ Hid (Pr w wx B C S I base N ⟨sk, so, sx, sl⟩ b b (dyingL b)))
  case first =>
    go_region_held3 (fun V => (V.cell? ⟨N, 0, none⟩ = some (.int .i64 sk) ∧ V.cell? ⟨N, 1, none⟩ = some (.int .i64 so) ∧ V.cell? ⟨N, 2, none⟩ = some (.int .i64 sx) ∧ V.cell? ⟨N, 3, none⟩ = some (.bool sl)) ∧ V.cell? ⟨C, 1, none⟩ = some (.int .i64 b.now) ∧ N < V.heap.size ∧ C < V.heap.size)
      ((refine HHd.out _ b b (dyingL b) ?_; first | with_reducible exact HP.out | with_reducible exact Pr.drew HP.out | with_reducible exact Pr.drew (Pr.drew HP.out)))
      ((go_at_call 24; with_reducible refine (HOf.out _).mono ?_; rintro xe w10 ⟨rfl, hf⟩; have HP := hid (Pr.step (by first | with_reducible exact HP.out | with_reducible exact Pr.drew HP.out | with_reducible exact Pr.drew (Pr.drew HP.out)) hf); clear hf))
    all_goals (go_wp2_with fail)
    all_goals go_meet
    all_goals exact ⟨rfl, HP⟩
  case rest =>
    clear HP
    obtain ⟨rfl, HP⟩ := hcut
    obtain ⟨⟨x0, x1, x2, x3⟩, _, xN, xC⟩ := HHd.out _ _ _ _ HP.out
    by_cases k1 : sk = 1
    · have E2 : doB b ⟨sk, so, sx, sl⟩ = sealB b so := by unfold doB; dsimp only; rw [if_pos k1]
      rw [E2] at HJ'
      have HE2 := hid E2
      clear E2
      go_wp2_with fail
      refine (HP.out.runP (fun m hb => sealM_any hb so)).mono ?_
      rintro xe w2 ⟨rfl, hp⟩
      have HP := hid hp
      clear hp x0 x1 x2 x3 xN xC
      obtain ⟨⟨x0, x1, x2, x3⟩, _, xN, xC⟩ := HHd.out _ _ _ _ HP.out
      go_wp2_with fail
      refine (HP.out.runR (fun sv vD vW hr => rseal_any hr HWb.out so)).mono ?_
      rintro xe w3 ⟨rfl, hp⟩
      have HP := hid hp
      clear hp x0 x1 x2 x3 xN xC
      go_wp2_with fail
      go_ret
      rw [HE2.out]
      exact ⟨rfl, HP.out.to (Sm.refl _) (seal_die HWb.out HJ.out HP.out.wfP) HJ'.out⟩
    by_cases k2 : sk = 2
    · have E2 : doB b ⟨sk, so, sx, sl⟩ = innB b so := by unfold doB; dsimp only; rw [if_neg k1, if_pos k2]
      rw [E2] at HJ'
      have HE2 := hid E2
      clear E2
      have n1 : (sk == 1) = false := by simp [k1]
      go_wp2_with fail
      refine (HP.out.runP (fun m hb => innM_any hb so)).mono ?_
      rintro xe w2 ⟨rfl, hp⟩
      have HP := hid hp
      clear hp x0 x1 x2 x3 xN xC
      obtain ⟨⟨x0, x1, x2, x3⟩, _, xN, xC⟩ := HHd.out _ _ _ _ HP.out
      go_wp2_with fail
      refine (HP.out.runR (fun sv vD vW hr => rinner_any hr HWb.out so)).mono ?_
      rintro xe w3 ⟨rfl, hp⟩
      have HP := hid hp
      clear hp x0 x1 x2 x3 xN xC
      go_wp2_with fail
      go_ret
      rw [HE2.out]
      exact ⟨rfl, HP.out.to (Sm.refl _) (inn_die HWb.out HJ.out HP.out.wfP) HJ'.out⟩
    by_cases k3 : sk = 3
    · have E2 : doB b ⟨sk, so, sx, sl⟩ = joinB b so e := by unfold doB; dsimp only; rw [if_neg k1, if_neg k2, if_pos k3]; rw [HEE.out]
      rw [E2] at HJ'
      have HE2 := hid E2
      clear E2
      have n1 : (sk == 1) = false := by simp [k1]
      have n2 : (sk == 2) = false := by simp [k2]
      have HH1 : Hid (∀ V bP bR dR, Pr w V B C S I base N ⟨sk, so, sx, sl⟩ bP bR dR → V.cell? ⟨N, 1, none⟩ = some (.int .i64 so) ∧ N < V.heap.size) := fun V bP bR dR hp => ⟨(HHd.out V bP bR dR hp).1.2.1, (HHd.out V bP bR dR hp).2.2.1⟩
      have HA : Hid (∀ V bR dR, Pr w V B C S I base N ⟨sk, so, sx, sl⟩ b bR dR → Calls Try.prog 28 #[.pointer (some ⟨B, 0, none⟩), .int .i64 so, .int .i64 e] V fun x w' => x = .returned (.int .i64 (joinErr b so e)) ∧ Pr w w' B C S I base N ⟨sk, so, sx, sl⟩ (joinB b so e) bR dR) := fun V bR dR hp => hp.runP (fun m hb => joinM_any hb so e HE.out)
      have HB : Hid (∀ V bP, Pr w V B C S I base N ⟨sk, so, sx, sl⟩ bP b (dyingL b) → Calls Try.prog 39 #[.pointer (some ⟨C, 0, none⟩), .int .i64 so, .int .i64 e] V fun x w' => x = .returned (.int .i64 (joinErr b so e)) ∧ Pr w w' B C S I base N ⟨sk, so, sx, sl⟩ bP (joinB b so e) (dyingL b)) := fun V bP hp => hp.runR (fun sv vD vW hr => rjoin_any hr HWb.out so e)
      go_wp2_with fail
      clear x0 x1 x2 x3 xN xC
      go_region_held3 (fun V => V.cell? ⟨N, 1, none⟩ = some (.int .i64 so) ∧ N < V.heap.size)
        ((apply HH1.out; first | with_reducible exact HP.out | with_reducible exact Pr.drew HP.out | with_reducible exact Pr.drew (Pr.drew HP.out)))
        ((first
          | (go_at_call 28; with_reducible refine (HA.out _ _ _ (by first | with_reducible exact HP.out | with_reducible exact Pr.drew HP.out | with_reducible exact Pr.drew (Pr.drew HP.out))).mono ?_; rintro xe w10 ⟨rfl, hp⟩; have HP := hid hp; clear hp)
          | (go_at_call 39; with_reducible refine (HB.out _ _ (by first | with_reducible exact HP.out | with_reducible exact Pr.drew HP.out | with_reducible exact Pr.drew (Pr.drew HP.out))).mono ?_; rintro xe w11 ⟨rfl, hp⟩; have HP := hid hp; clear hp)))
      all_goals (go_wp2_with fail)
      all_goals go_ret
      all_goals rw [HE2.out]
      all_goals exact ⟨by simp, HP.out.to (Sm.refl _) (join_die HWb.out HJ.out HP.out.wfP) HJ'.out⟩
    by_cases k4 : sk = 4
    · have E2 : doB b ⟨sk, so, sx, sl⟩ = relB b so e := by unfold doB; dsimp only; rw [if_neg k1, if_neg k2, if_neg k3, if_pos k4]; rw [HEE.out]
      rw [E2] at HJ'
      have HE2 := hid E2
      clear E2
      have n1 : (sk == 1) = false := by simp [k1]
      have n2 : (sk == 2) = false := by simp [k2]
      have n3 : (sk == 3) = false := by simp [k3]
      have HH1 : Hid (∀ V bP bR dR, Pr w V B C S I base N ⟨sk, so, sx, sl⟩ bP bR dR → V.cell? ⟨N, 1, none⟩ = some (.int .i64 so) ∧ N < V.heap.size) := fun V bP bR dR hp => ⟨(HHd.out V bP bR dR hp).1.2.1, (HHd.out V bP bR dR hp).2.2.1⟩
      have HA : Hid (∀ V bR dR, Pr w V B C S I base N ⟨sk, so, sx, sl⟩ b bR dR → Calls Try.prog 29 #[.pointer (some ⟨B, 0, none⟩), .int .i64 so, .int .i64 e] V fun x w' => x = .returned (.int .i64 (relErr b so e)) ∧ Pr w w' B C S I base N ⟨sk, so, sx, sl⟩ (relB b so e) bR dR) := fun V bR dR hp => hp.runP (fun m hb => relM_any hb so e HE.out)
      have HB : Hid (∀ V bP, Pr w V B C S I base N ⟨sk, so, sx, sl⟩ bP b (dyingL b) → Calls Try.prog 40 #[.pointer (some ⟨C, 0, none⟩), .int .i64 so, .int .i64 e] V fun x w' => x = .returned (.int .i64 (relErr b so e)) ∧ Pr w w' B C S I base N ⟨sk, so, sx, sl⟩ bP (relR b so e) (relD b (dyingL b) so e)) := fun V bP hp => hp.runR (fun sv vD vW hr => rrel_any hr HWb.out (by have := HDl.out; omega) so e)
      go_wp2_with fail
      clear x0 x1 x2 x3 xN xC
      go_region_held3 (fun V => V.cell? ⟨N, 1, none⟩ = some (.int .i64 so) ∧ N < V.heap.size)
        ((apply HH1.out; first | with_reducible exact HP.out | with_reducible exact Pr.drew HP.out | with_reducible exact Pr.drew (Pr.drew HP.out)))
        ((first
          | (go_at_call 29; with_reducible refine (HA.out _ _ _ (by first | with_reducible exact HP.out | with_reducible exact Pr.drew HP.out | with_reducible exact Pr.drew (Pr.drew HP.out))).mono ?_; rintro xe w10 ⟨rfl, hp⟩; have HP := hid hp; clear hp)
          | (go_at_call 40; with_reducible refine (HB.out _ _ (by first | with_reducible exact HP.out | with_reducible exact Pr.drew HP.out | with_reducible exact Pr.drew (Pr.drew HP.out))).mono ?_; rintro xe w11 ⟨rfl, hp⟩; have HP := hid hp; clear hp)))
      all_goals (go_wp2_with fail)
      all_goals go_ret
      all_goals rw [HE2.out]
      all_goals exact ⟨by simp, HP.out.to (rel_sm _ _ _) (rel_die HWb.out HJ.out HP.out.wfP) HJ'.out⟩
    by_cases k5 : sk = 5
    · have E2 : doB b ⟨sk, so, sx, sl⟩ = doneB b so := by unfold doB; dsimp only; rw [if_neg k1, if_neg k2, if_neg k3, if_neg k4, if_pos k5]
      rw [E2] at HJ'
      have HE2 := hid E2
      clear E2
      have n1 : (sk == 1) = false := by simp [k1]
      have n2 : (sk == 2) = false := by simp [k2]
      have n3 : (sk == 3) = false := by simp [k3]
      have n4 : (sk == 4) = false := by simp [k4]
      have HH1 : Hid (∀ V bP bR dR, Pr w V B C S I base N ⟨sk, so, sx, sl⟩ bP bR dR → V.cell? ⟨N, 1, none⟩ = some (.int .i64 so) ∧ N < V.heap.size) := fun V bP bR dR hp => ⟨(HHd.out V bP bR dR hp).1.2.1, (HHd.out V bP bR dR hp).2.2.1⟩
      have HA : Hid (∀ V bR dR, Pr w V B C S I base N ⟨sk, so, sx, sl⟩ b bR dR → Calls Try.prog 41 #[.pointer (some ⟨B, 0, none⟩), .int .i64 so] V fun x w' => x = .returned (.int .i64 (doneErr b so)) ∧ Pr w w' B C S I base N ⟨sk, so, sx, sl⟩ (doneB b so) bR dR) := fun V bR dR hp => hp.runP (fun m hb => doneM_any hb so)
      have HB : Hid (∀ V bP, Pr w V B C S I base N ⟨sk, so, sx, sl⟩ bP b (dyingL b) → Calls Try.prog 42 #[.pointer (some ⟨C, 0, none⟩), .int .i64 so] V fun x w' => x = .returned (.int .i64 (doneErr b so)) ∧ Pr w w' B C S I base N ⟨sk, so, sx, sl⟩ bP (doneR b so) (doneD b (dyingL b) so)) := fun V bP hp => hp.runR (fun sv vD vW hr => rdone_any hr HWb.out (by have := HDl.out; omega) so)
      go_wp2_with fail
      clear x0 x1 x2 x3 xN xC
      go_region_held3 (fun V => V.cell? ⟨N, 1, none⟩ = some (.int .i64 so) ∧ N < V.heap.size)
        ((apply HH1.out; first | with_reducible exact HP.out | with_reducible exact Pr.drew HP.out | with_reducible exact Pr.drew (Pr.drew HP.out)))
        ((first
          | (go_at_call 41; with_reducible refine (HA.out _ _ _ (by first | with_reducible exact HP.out | with_reducible exact Pr.drew HP.out | with_reducible exact Pr.drew (Pr.drew HP.out))).mono ?_; rintro xe w10 ⟨rfl, hp⟩; have HP := hid hp; clear hp)
          | (go_at_call 42; with_reducible refine (HB.out _ _ (by first | with_reducible exact HP.out | with_reducible exact Pr.drew HP.out | with_reducible exact Pr.drew (Pr.drew HP.out))).mono ?_; rintro xe w11 ⟨rfl, hp⟩; have HP := hid hp; clear hp)))
      all_goals (go_wp2_with fail)
      all_goals go_ret
      all_goals rw [HE2.out]
      all_goals exact ⟨by simp, HP.out.to (done_sm _ _) (done_die HWb.out HJ.out HP.out.wfP) HJ'.out⟩
    by_cases k6 : sk = 6
    · have E2 : doB b ⟨sk, so, sx, sl⟩ = dropB b so := by unfold doB; dsimp only; rw [if_neg k1, if_neg k2, if_neg k3, if_neg k4, if_neg k5, if_pos k6]
      rw [E2] at HJ'
      have HE2 := hid E2
      clear E2
      have n1 : (sk == 1) = false := by simp [k1]
      have n2 : (sk == 2) = false := by simp [k2]
      have n3 : (sk == 3) = false := by simp [k3]
      have n4 : (sk == 4) = false := by simp [k4]
      have n5 : (sk == 5) = false := by simp [k5]
      have HH1 : Hid (∀ V bP bR dR, Pr w V B C S I base N ⟨sk, so, sx, sl⟩ bP bR dR → V.cell? ⟨N, 1, none⟩ = some (.int .i64 so) ∧ N < V.heap.size) := fun V bP bR dR hp => ⟨(HHd.out V bP bR dR hp).1.2.1, (HHd.out V bP bR dR hp).2.2.1⟩
      have HA : Hid (∀ V bR dR, Pr w V B C S I base N ⟨sk, so, sx, sl⟩ b bR dR → Calls Try.prog 43 #[.pointer (some ⟨B, 0, none⟩), .int .i64 so] V fun x w' => x = .returned (.int .i64 (dropN b so)) ∧ Pr w w' B C S I base N ⟨sk, so, sx, sl⟩ (dropB b so) bR dR) := fun V bR dR hp => hp.runP (fun m hb => dropM_any hb so)
      have HB : Hid (∀ V bP, Pr w V B C S I base N ⟨sk, so, sx, sl⟩ bP b (dyingL b) → Calls Try.prog 44 #[.pointer (some ⟨C, 0, none⟩), .int .i64 so] V fun x w' => x = .returned (.int .i64 (dropN b so)) ∧ Pr w w' B C S I base N ⟨sk, so, sx, sl⟩ bP (dropR b so) (dropRD b (dyingL b) so)) := fun V bP hp => hp.runR (fun sv vD vW hr => rdrop_any hr HWb.out HDl.out so)
      go_wp2_with fail
      clear x0 x1 x2 x3 xN xC
      go_region_held3 (fun V => V.cell? ⟨N, 1, none⟩ = some (.int .i64 so) ∧ N < V.heap.size)
        ((apply HH1.out; first | with_reducible exact HP.out | with_reducible exact Pr.drew HP.out | with_reducible exact Pr.drew (Pr.drew HP.out)))
        ((first
          | (go_at_call 43; with_reducible refine (HA.out _ _ _ (by first | with_reducible exact HP.out | with_reducible exact Pr.drew HP.out | with_reducible exact Pr.drew (Pr.drew HP.out))).mono ?_; rintro xe w10 ⟨rfl, hp⟩; have HP := hid hp; clear hp)
          | (go_at_call 44; with_reducible refine (HB.out _ _ (by first | with_reducible exact HP.out | with_reducible exact Pr.drew HP.out | with_reducible exact Pr.drew (Pr.drew HP.out))).mono ?_; rintro xe w11 ⟨rfl, hp⟩; have HP := hid hp; clear hp)))
      all_goals (go_wp2_with fail)
      all_goals go_ret
      all_goals rw [HE2.out]
      all_goals exact ⟨by simp, HP.out.to (drop_sm _ _) (drop_die HWb.out HJ.out HP.out.wfP) HJ'.out⟩
    by_cases k7 : sk = 7
    · have E2 : doB b ⟨sk, so, sx, sl⟩ = beginB b := by unfold doB; dsimp only; rw [if_neg k1, if_neg k2, if_neg k3, if_neg k4, if_neg k5, if_neg k6, if_pos k7]
      rw [E2] at HJ'
      have HE2 := hid E2
      clear E2
      have n1 : (sk == 1) = false := by simp [k1]
      have n2 : (sk == 2) = false := by simp [k2]
      have n3 : (sk == 3) = false := by simp [k3]
      have n4 : (sk == 4) = false := by simp [k4]
      have n5 : (sk == 5) = false := by simp [k5]
      have n6 : (sk == 6) = false := by simp [k6]
      go_wp2_with fail
      refine (HP.out.runP (fun m hb => beginM_any hb)).mono ?_
      rintro xe w2 ⟨rfl, hp⟩
      have HP := hid hp
      clear hp x0 x1 x2 x3 xN xC
      obtain ⟨⟨x0, x1, x2, x3⟩, _, xN, xC⟩ := HHd.out _ _ _ _ HP.out
      go_wp2_with fail
      refine (HP.out.runR (fun sv vD vW hr => rbegin_any hr (by have := HDl.out; omega))).mono ?_
      rintro xe w3 ⟨rfl, hp⟩
      have HP := hid hp
      clear hp x0 x1 x2 x3 xN xC
      go_wp2_with fail
      go_ret
      rw [HE2.out]
      exact ⟨rfl, HP.out.to (begin_sm HWb.out HJ.out) (begin_die HWb.out HJ.out HP.out.wfP) HJ'.out⟩
    by_cases k8 : sk = 8
    · have E2 : doB b ⟨sk, so, sx, sl⟩ = endB b := by unfold doB; dsimp only; rw [if_neg k1, if_neg k2, if_neg k3, if_neg k4, if_neg k5, if_neg k6, if_neg k7, if_pos k8]
      rw [E2] at HJ'
      have HE2 := hid E2
      clear E2
      have n1 : (sk == 1) = false := by simp [k1]
      have n2 : (sk == 2) = false := by simp [k2]
      have n3 : (sk == 3) = false := by simp [k3]
      have n4 : (sk == 4) = false := by simp [k4]
      have n5 : (sk == 5) = false := by simp [k5]
      have n6 : (sk == 6) = false := by simp [k6]
      have n7 : (sk == 7) = false := by simp [k7]
      go_wp2_with fail
      refine (HP.out.runP (fun m hb => endM_any hb)).mono ?_
      rintro xe w2 ⟨rfl, hp⟩
      have HP := hid hp
      clear hp x0 x1 x2 x3 xN xC
      obtain ⟨⟨x0, x1, x2, x3⟩, _, xN, xC⟩ := HHd.out _ _ _ _ HP.out
      go_wp2_with fail
      refine (HP.out.runR (fun sv vD vW hr => rend_any hr (by have := HDl.out; omega))).mono ?_
      rintro xe w3 ⟨rfl, hp⟩
      have HP := hid hp
      clear hp x0 x1 x2 x3 xN xC
      go_wp2_with fail
      go_ret
      rw [HE2.out]
      exact ⟨rfl, HP.out.to (Sm.refl _) (end_die HWb.out HJ.out HP.out.wfP) HJ'.out⟩
    have E2 : doB b ⟨sk, so, sx, sl⟩ = b := by unfold doB; dsimp only; rw [if_neg k1, if_neg k2, if_neg k3, if_neg k4, if_neg k5, if_neg k6, if_neg k7, if_neg k8]
    rw [E2] at HJ'
    have HE2 := hid E2
    clear E2
    by_cases k10 : sk = 10
    · skip
      have HH1 : Hid (∀ V bP bR dR, Pr w V B C S I base N ⟨sk, so, sx, sl⟩ bP bR dR → V.cell? ⟨N, 1, none⟩ = some (.int .i64 so) ∧ N < V.heap.size) := fun V bP bR dR hp => ⟨(HHd.out V bP bR dR hp).1.2.1, (HHd.out V bP bR dR hp).2.2.1⟩
      have HA : Hid (∀ V bR dR, Pr w V B C S I base N ⟨sk, so, sx, sl⟩ b bR dR → Calls Try.prog 15 #[.pointer (some ⟨B, 0, none⟩), .int .i64 so, .int .i64 e] V fun x w' => x = .returned (.bool (holdsB b so e)) ∧ Pr w w' B C S I base N ⟨sk, so, sx, sl⟩ (b) bR dR) := fun V bR dR hp => by
        obtain ⟨⟨m, h1, h2⟩, h3⟩ := hp
        refine (holds_any h1 so e HE.out).mono ?_
        rintro x w' ⟨hx, hf⟩
        exact ⟨hx, Pr.step ⟨⟨m, h1, h2⟩, h3⟩ hf⟩
      have HB : Hid (∀ V bP, Pr w V B C S I base N ⟨sk, so, sx, sl⟩ bP b (dyingL b) → Calls Try.prog 16 #[.pointer (some ⟨C, 0, none⟩), .int .i64 so, .int .i64 e] V fun x w' => x = .returned (.bool (holdsB b so e)) ∧ Pr w w' B C S I base N ⟨sk, so, sx, sl⟩ bP (b) (dyingL b)) := fun V bP hp => by
        obtain ⟨h1, ⟨sv, vD, vW, h2⟩, h3⟩ := hp
        refine (rholds_any h2 so e).mono ?_
        rintro x w' ⟨hx, hf⟩
        exact ⟨hx, Pr.step ⟨h1, ⟨sv, vD, vW, h2⟩, h3⟩ hf⟩
      go_wp2_with fail
      clear x0 x1 x2 x3 xN xC
      go_region_held3 (fun V => V.cell? ⟨N, 1, none⟩ = some (.int .i64 so) ∧ N < V.heap.size)
        ((apply HH1.out; first | with_reducible exact HP.out | with_reducible exact Pr.drew HP.out | with_reducible exact Pr.drew (Pr.drew HP.out)))
        ((first
          | (go_at_call 15; with_reducible refine (HA.out _ _ _ (by first | with_reducible exact HP.out | with_reducible exact Pr.drew HP.out | with_reducible exact Pr.drew (Pr.drew HP.out))).mono ?_; rintro xe w10 ⟨rfl, hp⟩; have HP := hid hp; clear hp)
          | (go_at_call 16; with_reducible refine (HB.out _ _ (by first | with_reducible exact HP.out | with_reducible exact Pr.drew HP.out | with_reducible exact Pr.drew (Pr.drew HP.out))).mono ?_; rintro xe w11 ⟨rfl, hp⟩; have HP := hid hp; clear hp)))
      all_goals (go_wp2_with fail)
      all_goals go_ret
      all_goals rw [HE2.out]
      all_goals exact ⟨by simp, HP.out.to (Sm.refl _) rfl HJ'.out⟩
    · go_wp2_with fail
      go_ret
      rw [HE2.out]
      exact ⟨rfl, HP.out.to (Sm.refl _) rfl HJ'.out⟩
end Go.Proofs.Ytekooeekaigmaaa.E
