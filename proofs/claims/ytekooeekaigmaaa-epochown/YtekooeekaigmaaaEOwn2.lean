/- EpochOwn: the walk. -/
import Derived.Test.YtekooeekaigmaaaEOwn
namespace Go.Proofs.Ytekooeekaigmaaa.E
open Go.RowKit Go.Maps Go.MuLone

theorem free_of9 {W : World} {N : Nat} {cs : Array Value} {t : TypeId} (h : W.heap[N]? = some (.cells cs t (0, 0))) (o : Nat) : W.frozen? ⟨N, o, none⟩ = false := by simp [World.frozen?, h]
def V4 (v0 v1 v2 v3 : Value) (k : Nat) : Value := if k = 0 then v0 else if k = 1 then v1 else if k = 2 then v2 else v3
def R4 (r0 r1 : List Int) (k : Nat) : List Int := if k = 0 then r0 else if k = 1 then r1 else if k = 2 then r0 else r1
theorem EO.start {w W0 W1 W2 W3 W4 : World} {Bs : Nat → Nat} {st : Nat → Bo} {v0 v1 v2 v3 : Value} {r0 r1 : List Int} (h : Fm w W4 2 Bs st) (hw : w.heap.size ≤ W0.heap.size)
    (o0 : OwI W1 W0.heap.size v0 r0) (f0 : Fr W0 W1 (fun _ => False)) (o1 : OwI W2 W1.heap.size v1 r1) (f1 : Fr W1 W2 (fun _ => False)) (o2 : OwI W3 W2.heap.size v2 r0) (f2 : Fr W2 W3 (fun _ => False)) (o3 : OwI W4 W3.heap.size v3 r1) (f3 : Fr W3 W4 (fun _ => False))
    (l0 : r0.length ≤ 4398046511102) (l1 : r1.length ≤ 4398046511102) :
    EO w (W4.alloc (.cells #[v0, v1, v2, v3] 38)) Bs st W0.heap.size W4.heap.size (V4 v0 v1 v2 v3) (R4 r0 r1) := by
  have s0 := f0.size
  have s1 := f1.size
  have s2 := f2.size
  have s3 := f3.size
  have hfa := alloc_fr W4 (.cells #[v0, v1, v2, v3] 38) (fun _ => False)
  have b0 : ∀ x, v0.ownBlock = some x → W0.heap.size ≤ x ∧ x < W1.heap.size := fun x hx => World.ownsRow.lt o0 x hx
  have b1 : ∀ x, v1.ownBlock = some x → W1.heap.size ≤ x ∧ x < W2.heap.size := fun x hx => World.ownsRow.lt o1 x hx
  have b2 : ∀ x, v2.ownBlock = some x → W2.heap.size ≤ x ∧ x < W3.heap.size := fun x hx => World.ownsRow.lt o2 x hx
  have b3 : ∀ x, v3.ownBlock = some x → W3.heap.size ≤ x ∧ x < W4.heap.size := fun x hx => World.ownsRow.lt o3 x hx
  refine ⟨h.step hfa, heap_alloc_new W4 _, fun k hk => ?_, fun k k' x hk hk' e1 e2 => ?_, ⟨hw, by omega, by simp; omega⟩, fun k hk => ?_⟩
  · rcases (show k = 0 ∨ k = 1 ∨ k = 2 ∨ k = 3 by omega) with rfl | rfl | rfl | rfl
    · exact ((((o0.fr f1 (fun _ _ h => h)).fr f2 (fun _ _ h => h)).fr f3 (fun _ _ h => h)).fr hfa (fun _ _ h => h))
    · exact (((o1.fr f2 (fun _ _ h => h)).fr f3 (fun _ _ h => h)).fr hfa (fun _ _ h => h)).mono s0
    · exact ((o2.fr f3 (fun _ _ h => h)).fr hfa (fun _ _ h => h)).mono (by omega)
    · exact (o3.fr hfa (fun _ _ h => h)).mono (by omega)
  · rcases (show k = 0 ∨ k = 1 ∨ k = 2 ∨ k = 3 by omega) with rfl | rfl | rfl | rfl <;> rcases (show k' = 0 ∨ k' = 1 ∨ k' = 2 ∨ k' = 3 by omega) with rfl | rfl | rfl | rfl <;> first
      | rfl
      | (exfalso
         simp only [V4] at e1 e2
         first | (have p := b0 x e1; have q := b1 x e2; omega) | (have p := b0 x e1; have q := b2 x e2; omega) | (have p := b0 x e1; have q := b3 x e2; omega) | (have p := b1 x e1; have q := b0 x e2; omega) | (have p := b1 x e1; have q := b2 x e2; omega) | (have p := b1 x e1; have q := b3 x e2; omega) | (have p := b2 x e1; have q := b0 x e2; omega) | (have p := b2 x e1; have q := b1 x e2; omega) | (have p := b2 x e1; have q := b3 x e2; omega) | (have p := b3 x e1; have q := b0 x e2; omega) | (have p := b3 x e1; have q := b1 x e2; omega) | (have p := b3 x e1; have q := b2 x e2; omega))
  · rcases (show k = 0 ∨ k = 1 ∨ k = 2 ∨ k = 3 by omega) with rfl | rfl | rfl | rfl <;> simp [R4] <;> omega

set_option maxHeartbeats 8000000 in
set_option maxRecDepth 100000 in
theorem own_walk (w : World) (pins : Int) {v : Value} {ss : List Stp} (hs : Sc w v ss) :
    Calls Try.prog 8 #[.int .i64 pins, v] w fun e w' => e = .returned (.bool true) ∧ Fr w w' (fun _ => False) := by
  have H0 := hid hs
  obtain ⟨ao, cap, rfl, _⟩ := hs
  by_cases t1 : (400 : Int) < (ss.length : Int)
  · go_enter Try.func8, Try.ntmps8
    go_wp2_with fail
    refine (known_any w).mono ?_
    rintro e w1 ⟨rfl, hf1⟩
    have HF := hid hf1
    clear hf1
    go_wp2_with fail
    go_ret
    exact ⟨rfl, HF.out⟩
  by_cases t4 : pins < 1
  · go_enter Try.func8, Try.ntmps8
    go_wp2_with fail
    refine (known_any w).mono ?_
    rintro e w1 ⟨rfl, hf1⟩
    have HF := hid hf1
    clear hf1
    go_wp2_with fail
    go_ret
    exact ⟨rfl, HF.out⟩
  by_cases t5 : 64 < pins
  · go_enter Try.func8, Try.ntmps8
    go_wp2_with fail
    refine (known_any w).mono ?_
    rintro e w1 ⟨rfl, hf1⟩
    have HF := hid hf1
    clear hf1
    go_wp2_with fail
    go_ret
    exact ⟨rfl, HF.out⟩
  have HP := hid (show 1 ≤ pins ∧ pins ≤ 64 by omega)
  go_enter Try.func8, Try.ntmps8
  go_wp2_with fail
  refine (known_any w).mono ?_
  rintro e w1 ⟨rfl, hf1⟩
  have HF := hid hf1
  clear hf1
  go_wp2_with fail
  refine (new_any pins HP.out.1 HP.out.2 _).mono ?_
  rintro e w2 ⟨A, rfl, m1, hb1, hlo1, hf2⟩
  have HA := hid (((Fm.none w1 (fun _ => 0) (fun _ => newB pins)).later HF.out).add hb1 hlo1 hf2)
  clear hb1 hlo1 hf2
  go_wp2_with fail
  refine (new_any pins HP.out.1 HP.out.2 _).mono ?_
  rintro e w3 ⟨B, rfl, m2, hb2, hlo2, hf3⟩
  have HAB := hid (HA.out.add hb2 hlo2 hf3)
  clear hb2 hlo2 hf3 HA
  generalize hBs : upd (upd (fun _ => 0) 0 A) (0 + 1) B = Bs at *
  have HBA := hid (show Bs 0 = A by rw [← hBs]; rfl)
  have HBB := hid (show Bs 1 = B by rw [← hBs]; rfl)
  clear hBs
  go_wp2_with fail
  go_loopg [9] ss.length (fun g s9 wx => ∃ (i : Nat) (st : Nat → Bo), s9 = .int .i64 (i : Int) ∧ i + g = ss.length ∧ Hid (Fm w wx 2 Bs st) ∧ Hid (st 0 = st 1))
  case atStart => exact ⟨0, _, rfl, by omega, HAB, rfl⟩
  case round =>
    obtain ⟨i, st, rfl, hg, HFm, HEq⟩ := hrel
    clear HAB
    cases gk with
    | zero =>
      have u1 : ¬ (i : Int) < (ss.length : Int) := by omega
      clear hg
      go_wp2_with fail
      refine (fm_alike HFm.out (i := 0) (j := 1) (by omega) (by omega) HBA.out HBB.out HEq.out).mono ?_
      rintro e w6 ⟨rfl, hf⟩
      have HF := hid (HFm.out.fr.trans hf)
      clear hf
      go_wp2_with fail
      go_ret
      exact ⟨rfl, HF.out⟩
    | succ g =>
      have u1 : (i : Int) < (ss.length : Int) := by omega
      obtain ⟨sb, so, cp, ev, ⟨q0, q1, q2, q3, hfit⟩, hbl⟩ := H0.out.at (Fm.fr HFm.out) (show i < ss.length by omega)
      simp only [Value.slice.injEq] at ev
      obtain ⟨rfl, _, rfl⟩ := ev
      have HG := hid hg
      have HS := hid hfit
      have HI := hid (show i < ss.length by omega)
      generalize hE : ss.getD i st0 = s at *
      have HE := hid hE
      clear hg hfit hE
      go_wp2_with fail
      refine (Fm.run HFm.out (i := 0) (by omega) HBA.out (fun m hb => do_any hb s HS.out)).mono ?_
      rintro e w4 ⟨rfl, hfm, _⟩
      have HFm1 := hid hfm
      clear hfm q0 q1 q2 q3 hbl
      obtain ⟨sb', so', cp', ev, ⟨q0, q1, q2, q3, _⟩, hbl⟩ := H0.out.at (Fm.fr HFm1.out) HI.out
      simp only [Value.slice.injEq, Option.some.injEq, Addr.mk.injEq] at ev
      obtain ⟨⟨rfl, rfl, _⟩, _, rfl⟩ := ev
      rw [HE.out] at q0 q1 q2 q3
      go_wp2_with fail
      refine (Fm.run HFm1.out (i := 1) (by omega) HBB.out (fun m hb => do_any (b := st 1) hb s HS.out)).mono ?_
      rintro e w5 ⟨rfl, hfm, _⟩
      generalize hst2 : upd (upd st 0 (doB (st 0) s)) 1 (doB (st 1) s) = st2 at hfm
      have HFm2 := hid hfm
      have HEq2 := hid (show st2 0 = st2 1 by rw [← hst2]; show doB (st 0) s = doB (st 1) s; rw [HEq.out])
      have HW2 : Hid (Wf (st2 0)) := by obtain ⟨M, h⟩ := hfm; exact (h.bk 0 (by omega)).wf
      clear hfm hst2 q0 q1 q2 q3 hbl HFm HFm1 HEq
      go_wp2_with fail
      refine (Fm.ask HFm2.out (i := 0) (by omega) HBA.out (fun m hb => heldM_any hb)).mono ?_
      rintro e w6 ⟨v0, rfl, ho0, hf0⟩
      obtain ⟨ao0, cp0, hv0, _⟩ := ho0.at
      subst hv0
      have HO0 := hid ho0
      have HF0 := hid hf0
      have HFm := hid (HFm2.out.step hf0)
      clear ho0 hf0
      go_wp2_with fail
      refine (Fm.ask HFm.out (i := 0) (by omega) HBA.out (fun m hb => dyingM_any hb)).mono ?_
      rintro e w7 ⟨v1, rfl, ho0, hf0⟩
      obtain ⟨ao1, cp1, hv1, _⟩ := ho0.at
      subst hv1
      have HO1 := hid ho0
      have HF1 := hid hf0
      have HFm := hid (HFm.out.step hf0)
      clear ho0 hf0
      go_wp2_with fail
      refine (Fm.ask HFm.out (i := 0) (by omega) HBA.out (fun m hb => heldM_any hb)).mono ?_
      rintro e w8 ⟨v2, rfl, ho0, hf0⟩
      obtain ⟨ao2, cp2, hv2, _⟩ := ho0.at
      subst hv2
      have HO2 := hid ho0
      have HF2 := hid hf0
      have HFm := hid (HFm.out.step hf0)
      clear ho0 hf0
      go_wp2_with fail
      refine (Fm.ask HFm.out (i := 0) (by omega) HBA.out (fun m hb => dyingM_any hb)).mono ?_
      rintro e w9 ⟨v3, rfl, ho0, hf0⟩
      obtain ⟨ao3, cp3, hv3, _⟩ := ho0.at
      subst hv3
      have HO3 := hid ho0
      have HF3 := hid hf0
      have HFm := hid (HFm.out.step hf0)
      clear ho0 hf0
      go_wp2_with fail
      have HEO := hid (EO.start HFm.out HFm2.out.fr.size HO0.out HF0.out HO1.out HF1.out HO2.out HF2.out HO3.out HF3.out (by have := HW2.out.held_len; omega) (by rw [dying_len]; have := HW2.out.len 65; have := HW2.out.len 66; omega))
      generalize w9.alloc (.cells #[.slice ao0 (heldL (st2 0)).length cp0, .slice ao1 (dyingL (st2 0)).length cp1, .slice ao2 (heldL (st2 0)).length cp2, .slice ao3 (dyingL (st2 0)).length cp3] 38) = wb at *
      generalize w9.heap.size = P at *
      generalize w5.heap.size = base at *
      generalize V4 (.slice ao0 (heldL (st2 0)).length cp0) (.slice ao1 (dyingL (st2 0)).length cp1) (.slice ao2 (heldL (st2 0)).length cp2) (.slice ao3 (dyingL (st2 0)).length cp3) = V at *
      obtain ⟨L, hL⟩ : ∃ L : Nat → Nat, ∀ k, L k = (R4 (heldL (st2 0)) (dyingL (st2 0)) k).length := ⟨_, fun _ => rfl⟩
      have HL := hid (fun k (_ : k < 4) => (hL k).symm)
      have HLB : Hid (∀ k, k < 4 → L k ≤ 4398046511102) := fun k hk => by
        rw [hL k]
        have h1 := HW2.out.held_len
        have h2 := dying_len (st2 0)
        have h3 := HW2.out.len 65
        have h4 := HW2.out.len 66
        rcases (show k = 0 ∨ k = 1 ∨ k = 2 ∨ k = 3 by omega) with rfl | rfl | rfl | rfl <;> simp [R4] <;> omega
      generalize R4 (heldL (st2 0)) (dyingL (st2 0)) = R at *
      clear hL HO0 HO1 HO2 HO3 HF0 HF1 HF2 HF3 HFm HFm2
      go_loopg [11] 4 (fun g s11 wx => ∃ (k : Nat) (R : Nat → List Int), s11 = .int .i64 (k : Int) ∧ k + g = 4 ∧ Hid (EO w wx Bs st2 base P V R) ∧ Hid (∀ j, j < 4 → (R j).length = L j) ∧ Hid (∀ j, j < k → Mk R j (L j)))
      case atStart => exact ⟨0, R, rfl, rfl, HEO, HL, fun j hj => absurd hj (Nat.not_lt_zero _)⟩
      case round =>
        obtain ⟨k, R1, rfl, hk, HE1, HL1, HM1⟩ := hrel
        clear HEO HL
        cases gk with
        | zero =>
          have u2 : ¬ (k : Int) < 4 := by omega
          have HK := hid (show k = 4 by omega)
          clear hk
          go_wp2_with fail
          have HM4 : Hid (∀ j, j < 4 → Mk R1 j (L j)) := fun j hj => HM1.out j (by rw [HK.out]; exact hj)
          have HL4 : Hid (∀ j, j < 4 → (R1 j).length = L j + (if j < 0 then 1 else 0)) := fun j hj => by rw [HL1.out j hj]; simp
          clear HM1 HL1 u2 HK
          go_loopg [13] 4 (fun g s13 wx => ∃ (q : Nat) (V : Nat → Value) (R : Nat → List Int), s13 = .int .i64 (q : Int) ∧ q + g = 4 ∧ Hid (EO w wx Bs st2 base P V R) ∧ Hid (∀ j, j < 4 → (R j).length = L j + (if j < q then 1 else 0)) ∧ Hid (∀ j, j < 4 → Mk R j (L j)) ∧ Hid (∀ j, j < q → (R j).getD (L j) 0 = 7 + (j : Int)))
          case atStart => exact ⟨0, V, R1, rfl, rfl, HE1, HL4, HM4, fun j hj => absurd hj (Nat.not_lt_zero _)⟩
          case round =>
            obtain ⟨q, V2, R2, rfl, hq, HE2, HL2, HM2, HS2⟩ := hrel
            clear HE1 HL4 HM4
            cases gk with
            | succ g2 =>
              have u2 : (q : Int) < 4 := by omega
              have HQ := hid hq
              have HQ4 := hid (show q < 4 by omega)
              have hsp := spine_get HE2.out.sp HQ4.out
              have hPl := lt_of_block HE2.out.sp
              obtain ⟨ao, cap, hv, _, _⟩ := (HE2.out.ow q HQ4.out).at
              have hlq : (R2 q).length = L q := by rw [HL2.out q HQ4.out]; simp
              rw [hlq] at hv
              have HV := hid hv
              have HLq := hid hlq
              rw [hv] at hsp
              have hbq := HLB.out q HQ4.out
              have hbs := HE2.out.lo.2.2
              clear hv hlq hq
              go_wp2_with (at_builtin; go_must (refine wpl_app rfl (.tmp 113) (.tmp 116) rfl base (.slice ao (L q) cap) (.slice (some ⟨wr.heap.size, 0, none⟩) 1 1) (R2 q) [7 + (q : Int)] rfl rfl (by rw [← HV.out]; exact (HE2.out.ow q HQ4.out).fr (alloc_fr wr (.cells #[.int .i64 (7 + (q : Int))] 3) (fun _ => False)) (fun _ _ h => h)) (Or.inr ⟨_, _, rfl, cells_newI wr _⟩) ?c1 ?c2 ?_))
              case c1 => rw [HLq.out]; simp; omega
              case c2 => simp; omega
              intro v' w2 ho hgr hat
              rw [← HV.out] at hgr hat
              have HO := hid ho
              have HGr := hid hgr
              have HAt := hid hat
              have hPk : (V2 q).ownBlock ≠ some P := by
                intro e
                obtain ⟨cs, hcs⟩ := row_kind (HE2.out.ow q HQ4.out) e
                have := HE2.out.sp
                rw [hcs] at this
                simp at this
              have hP2 : w2.heap[P]? = some (.cells #[V2 0, V2 1, V2 2, V2 3] 38 (0, 0)) := by
                rw [hgr.block P (by simp; omega) (fun e => hPk e.symm), Below.heap_alloc _ _ P hPl]
                exact HE2.out.sp
              have d1 := spine_get hP2 HQ4.out
              have d2 := free_of9 hP2 q
              have d3 := lt_of_block hP2
              obtain ⟨ao', cap', hv'⟩ := own_nil_shape ho
              subst hv'
              clear ho hgr hat hPk hP2 hsp
              go_wp2_with fail
              go_roundg g2
              case rel =>
                refine ⟨q + 1, upd V2 q _, upd R2 q (R2 q ++ [7 + (q : Int)]), by simp, by have := HQ.out; omega, HE2.out.app HQ4.out (by simpa only [List.length_append, List.length_singleton] using HO.out) HGr.out (by have h := HAt.out; simpa [Value.ownBlock] using h) (by rw [HLq.out]; exact HLB.out q HQ4.out), fun j hj => ?_, fun j hj => ?_, fun j hj => ?_⟩
                · by_cases e : j = q
                  · subst e; rw [upd_same, List.length_append, HLq.out]; simp
                  · rw [upd_other _ _ e, HL2.out j hj]
                    by_cases e2 : j < q
                    · rw [if_pos e2, if_pos (by omega)]
                    · rw [if_neg e2, if_neg (by omega)]
                · by_cases e : j = q
                  · subst e; exact (HM2.out j hj).app (by rw [HLq.out]; exact Nat.le_refl _)
                  · exact (HM2.out j hj).other e
                · by_cases e : j = q
                  · subst e; rw [upd_same, ← HLq.out]; simp [List.getD]
                  · rw [upd_other _ _ e]; exact HS2.out j (by omega)
              case measure => omega
            | zero =>
              have u2 : ¬ (q : Int) < 4 := by omega
              have HQ := hid (show q = 4 by omega)
              have HL5 : Hid (∀ j, j < 4 → (R2 j).length = L j + 1) := fun j hj => by rw [HL2.out j hj, HQ.out, if_pos hj]
              have HS5 : Hid (∀ j, j < 4 → (R2 j).getD (L j) 0 = 7 + (j : Int)) := fun j hj => HS2.out j (by rw [HQ.out]; exact hj)
              clear hq HL2 HS2
              go_wp2_with fail
              clear u2 HQ
              go_loopg [14] 4 (fun g s14 wx => ∃ r : Nat, s14 = .int .i64 (r : Int) ∧ r + g = 4 ∧ Hid (EO w wx Bs st2 base P V2 R2))
              case atStart => exact ⟨0, rfl, rfl, HE2⟩
              case round =>
                obtain ⟨r, rfl, hr, HE3⟩ := hrel
                clear HE2
                cases gk with
                | succ g2 =>
                  have u2 : (r : Int) < 4 := by omega
                  have HR := hid hr
                  have HR4 := hid (show r < 4 by omega)
                  clear hr
                  go_wp2_with fail
                  go_loopg [15] (L r) (fun g s15 wx => ∃ n : Nat, s15 = .int .i64 (n : Int) ∧ n + g = L r ∧ Hid (EO w wx Bs st2 base P V2 R2))
                  case atStart => exact ⟨0, rfl, Nat.zero_add _, HE3⟩
                  case round =>
                    obtain ⟨n, rfl, hn, HE4⟩ := hrel
                    have hsp := spine_get HE4.out.sp HR4.out
                    have hPl := lt_of_block HE4.out.sp
                    have hb := HLB.out r HR4.out
                    obtain ⟨ao, cap, hv, _, hcells⟩ := (HE4.out.ow r HR4.out).at
                    have hlr := HL5.out r HR4.out
                    obtain ⟨gb, rfl, hcc⟩ := hcells (by intro e; rw [e] at hlr; simp at hlr)
                    rw [hlr] at hv
                    rw [hv] at hsp
                    cases gk with
                    | succ g3 =>
                      have u3 : (n : Int) + 1 < (L r : Int) + 1 := by omega
                      have u4 : (n : Int) < (L r : Int) + 1 := by omega
                      have c1 := hcc n (by rw [hlr]; omega)
                      rw [HM2.out r HR4.out n (by omega)] at c1
                      have cl := World.block_lt_of_cell? wr _ c1
                      dsimp only at cl
                      have HN := hid hn
                      clear hn hcc hcells hlr hv
                      go_wp2_with fail
                      go_roundg g3
                      case rel => exact ⟨n + 1, by simp, by have := HN.out; omega, HE4⟩
                      case measure => omega
                    | zero =>
                      have u3 : ¬ (n : Int) < (L r : Int) := by omega
                      have u8 : n = L r := by omega
                      subst u8
                      have c1 := hcc (L r) (by rw [hlr]; omega)
                      rw [HS5.out r HR4.out] at c1
                      have cl := World.block_lt_of_cell? wr _ c1
                      dsimp only at cl
                      have u5 : (L r : Int) < (L r : Int) + 1 := by omega
                      have u6 : (0 : Int) ≤ (L r : Int) := by omega
                      clear hn hcc hcells hlr hv
                      go_wp2_with fail
                      go_quiet (fail)
                      go_wp2_with fail
                      go_roundg g2
                      case rel => exact ⟨r + 1, by simp, by have := HR.out; omega, HE4.out.step ((Fr.refl _ _).drewN nq)⟩
                      case measure => omega
                | zero =>
                  have u2 : ¬ (r : Int) < 4 := by omega
                  clear hr
                  have HFm := hid HE3.out.fm
                  go_wp2_with fail
                  refine (Fm.ask HFm.out (i := 0) (by omega) HBA.out (fun m hb => heldM_any hb)).mono ?_
                  rintro e w10 ⟨x0, rfl, ho, hf⟩
                  have HO0 := hid ho
                  have HFm := hid (HFm.out.step hf)
                  clear ho hf
                  go_wp2_with fail
                  refine (Fm.ask HFm.out (i := 1) (by omega) HBB.out (fun m hb => heldM_any hb)).mono ?_
                  rintro e w11 ⟨x1, rfl, ho, hf⟩
                  have HO0 := hid (HO0.out.fr hf (fun _ _ h => h))
                  have HO1 := hid ho
                  have HFm := hid (HFm.out.step hf)
                  clear ho hf
                  go_wp2_with fail
                  refine (ints_any HO0.out HO1.out).mono ?_
                  rintro e w12 ⟨rfl, hf⟩
                  rw [show eqB (heldL (st2 0)) (heldL (st2 1)) = true by rw [HEq2.out]; simp [eqB]]
                  have HFm := hid (HFm.out.step hf)
                  clear hf HO0 HO1
                  go_wp2_with fail
                  refine (Fm.ask HFm.out (i := 0) (by omega) HBA.out (fun m hb => dyingM_any hb)).mono ?_
                  rintro e w13 ⟨x2, rfl, ho, hf⟩
                  have HO0 := hid ho
                  have HFm := hid (HFm.out.step hf)
                  clear ho hf
                  go_wp2_with fail
                  refine (Fm.ask HFm.out (i := 1) (by omega) HBB.out (fun m hb => dyingM_any hb)).mono ?_
                  rintro e w14 ⟨x3, rfl, ho, hf⟩
                  have HO0 := hid (HO0.out.fr hf (fun _ _ h => h))
                  have HO1 := hid ho
                  have HFm := hid (HFm.out.step hf)
                  clear ho hf
                  go_wp2_with fail
                  refine (ints_any HO0.out HO1.out).mono ?_
                  rintro e w15 ⟨rfl, hf⟩
                  rw [show eqB (dyingL (st2 0)) (dyingL (st2 1)) = true by rw [HEq2.out]; simp [eqB]]
                  have HFm := hid (HFm.out.step hf)
                  clear hf HO0 HO1
                  go_wp2_with fail
                  go_roundg g
                  case rel => exact ⟨i + 1, st2, by simp, by have := HG.out; omega, HFm, HEq2⟩
                  case measure => omega
        | succ g2 =>
          have u2 : (k : Int) < 4 := by omega
          have HK := hid hk
          have HK4 := hid (show k < 4 by omega)
          clear hk
          go_wp2_with fail
          go_loopg [12] (L k) (fun g s12 wx => ∃ (n : Nat) (R : Nat → List Int), s12 = .int .i64 (n : Int) ∧ n + g = L k ∧ Hid (EO w wx Bs st2 base P V R) ∧ Hid (∀ j, j < 4 → (R j).length = L j) ∧ Hid (∀ j, j < k → Mk R j (L j)) ∧ Hid (Mk R k n))
          case atStart => exact ⟨0, R1, rfl, Nat.zero_add _, HE1, HL1, HM1, fun j hj => absurd hj (Nat.not_lt_zero _)⟩
          case round =>
            obtain ⟨n, R2, rfl, hn, HE2, HL2, HM2, HN2⟩ := hrel
            have hsp := spine_get HE2.out.sp HK4.out
            have hPl := lt_of_block HE2.out.sp
            have hb := HLB.out k HK4.out
            obtain ⟨ao, cap, hv, _, hcells⟩ := (HE2.out.ow k HK4.out).at
            rw [HL2.out k HK4.out] at hv
            have HV := hid hv
            have HC := hid hcells
            rw [hv] at hsp
            clear hv hcells
            cases gk with
            | zero =>
              have u3 : ¬ (n : Int) < (L k : Int) := by omega
              have HNN := hid (show n = L k by omega)
              clear hn
              go_wp2_with fail
              go_roundg g2
              case rel =>
                refine ⟨k + 1, R2, by simp, by have := HK.out; omega, HE2, HL2, fun j hj => ?_⟩
                by_cases e : j = k
                · subst e; rw [← HNN.out]; exact HN2.out
                · exact HM2.out j (by omega)
              case measure => omega
            | succ g3 =>
              have u3 : (n : Int) < (L k : Int) := by omega
              have hnl : n < (R2 k).length := by rw [HL2.out k HK4.out]; omega
              have HNl := hid hnl
              obtain ⟨gb, rfl, hcc⟩ := HC.out (by intro e; rw [e] at hnl; simp at hnl)
              have c1 := hcc n hnl
              have cl := World.block_lt_of_cell? wr _ c1
              dsimp only at cl
              have cf : wr.frozen? ⟨gb, n, none⟩ = false := by
                obtain ⟨cs, hcs⟩ := row_kind (HE2.out.ow k HK4.out) (x := gb) (by rw [HV.out]; rfl)
                simp [World.frozen?, hcs]
              have HN := hid hn
              clear hn hcc hnl
              go_wp2_with fail
              go_roundg g3
              case rel =>
                refine ⟨n + 1, upd R2 k ((R2 k).set n (-(1000 * (k : Int)) - (n : Int))), by simp, by have := HN.out; omega, HE2.out.put HK4.out (by rw [HV.out, HL2.out k HK4.out]) HNl.out _, fun j hj => ?_, fun j hj => (HM2.out j hj).other (by omega), HN2.out.set HNl.out⟩
                by_cases e : j = k
                · subst e; rw [upd_same, List.length_set]; exact HL2.out j hj
                · rw [upd_other _ _ e]; exact HL2.out j hj
              case measure => omega
end Go.Proofs.Ytekooeekaigmaaa.E
