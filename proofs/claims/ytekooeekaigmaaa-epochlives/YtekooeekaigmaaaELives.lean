/- EpochLives: the walk. -/
import Derived.Test.YtekooeekaigmaaaELives1
namespace Go.Proofs.Ytekooeekaigmaaa.E
open Go.RowKit Go.Maps Go.MuLone

theorem Lv.eq {w W : World} {B M n : Nat} {b : Bo} {f g : Int → Int} (h : Lv w W B M b n f) (e : ∀ x, f x = g x) : Lv w W B M b n g := by
  rwa [show g = f from funext (fun x => (e x).symm)]

set_option maxHeartbeats 4000000 in
set_option maxRecDepth 100000 in
theorem lives_walk (w : World) (pins : Int) {v : Value} {ss : List Stp} (hs : Sc w v ss) :
    Calls Try.prog 4 #[.int .i64 pins, v] w fun e w' => e = .returned (.bool true) ∧ Fr w w' (fun _ => False) := by
  obtain ⟨ao, cap, rfl, hsc⟩ := hs
  have HSC := hid hsc
  clear hsc
  by_cases hb : 3000 < ss.length ∨ pins < 1 ∨ 64 < pins
  · have HBB := hid hb
    go_enter Try.func4, Try.ntmps4
    go_wp2_with fail
    refine (known_any w).mono ?_
    rintro e w1 ⟨rfl, hf1⟩
    have HF := hid hf1
    clear hf1
    rcases hb with hb | hb | hb
    · have t1 : (3000 : Int) < (ss.length : Int) := by omega
      go_wp2_with fail
      go_ret
      exact ⟨rfl, HF.out⟩
    · by_cases t1 : (3000 : Int) < (ss.length : Int)
      · go_wp2_with fail
        go_ret
        exact ⟨rfl, HF.out⟩
      · go_wp2_with fail
        go_ret
        exact ⟨rfl, HF.out⟩
    · by_cases t1 : (3000 : Int) < (ss.length : Int)
      · go_wp2_with fail
        go_ret
        exact ⟨rfl, HF.out⟩
      · have t2 : ¬ pins < 1 := by omega
        go_wp2_with fail
        go_ret
        exact ⟨rfl, HF.out⟩
  · have t1 : ¬ (3000 : Int) < (ss.length : Int) := by omega
    have t2 : ¬ pins < 1 := by omega
    have t3 : ¬ 64 < pins := by omega
    have HP := hid (show 1 ≤ pins ∧ pins ≤ 64 by omega)
    have hss : ss.length ≤ 3000 := by omega
    clear hb
    have hmm := @run_makeMap Try.prog
    go_enter Try.func4, Try.ntmps4
    go_wp2_with fail
    refine (known_any w).mono ?_
    rintro e w1 ⟨rfl, hf1⟩
    have HF := hid hf1
    clear hf1
    go_wp2_with fail
    refine (new_any pins HP.out.1 HP.out.2 _).mono ?_
    rintro e w2 ⟨B, rfl, m1, hb1, hlo1, hf2⟩
    have HL0 := hid (Lv.start HF.out hb1 hlo1 hf2 (stF_new pins))
    clear hb1 hlo1 hf2
    go_wp2_with fail
    clear hmm
    generalize hW0 : w2.alloc (.map #[] 0) = w3 at *
    generalize w2.heap.size = M at *
    clear hW0
    show Code.wp _ _ _ _ _
    go_loopg [10, 7, 9] ss.length (fun g s10 s7 s9 wx => ∃ (i se n : Nat) (b : Bo) (L : List Int), s10 = .int .i64 (i : Int) ∧ s7 = .int .i64 (se : Int) ∧ i + g = ss.length ∧ Hid (Rd w wx B M i se n b L s9))
    case atStart => exact ⟨0, 0, 0, newB pins, [], rfl, rfl, by omega, ⟨HL0.out, Jb.new pins, rfl, Nat.le_refl _, Nat.le_refl _, World.ownsRow_nil _ _ _ _, Nat.zero_le _, fun h => by cases h⟩⟩
    case round =>
      obtain ⟨i, se, n, b, L, rfl, rfl, hg, HR⟩ := hrel
      clear HL0 HF
      cases gk with
      | zero =>
        have t4 : ¬ (i : Int) < (ss.length : Int) := by omega
        clear hg
        go_wp2_with fail
        go_ret
        exact ⟨rfl, HR.out.lv.fr⟩
      | succ g =>
        have hi : i < ss.length := by omega
        have t4 : (i : Int) < (ss.length : Int) := by omega
        obtain ⟨sb, so, rfl, hst⟩ := HSC.out (by rintro rfl; simp at hi)
        obtain ⟨q0, q1, q2, q3, hfit⟩ := hst i hi
        have hbw := HR.out.lv.fr.below (Nat.le_refl _) (fun _ h => h.elim)
        have qb := World.block_lt_of_cell? w _ q0
        have q0 := (hbw.cell (p := ⟨sb, so + i * 4, none⟩) qb).trans q0
        have q1 := (hbw.cell (p := ⟨sb, so + i * 4 + 1, none⟩) qb).trans q1
        have q2 := (hbw.cell (p := ⟨sb, so + i * 4 + 2, none⟩) qb).trans q2
        have q3 := (hbw.cell (p := ⟨sb, so + i * 4 + 3, none⟩) qb).trans q3
        have qb2 := World.block_lt_of_cell? wr _ q0
        dsimp only at qb2
        generalize ss.getD i st0 = s at *
        obtain ⟨sk, sow, sx, sl⟩ := s
        dsimp only at q0 q1 q2 q3
        have HFit := hid hfit
        have HG := hid hg
        have HI := hid hi
        have HWb := hid HR.out.lv.wf
        have HSi := hid (show se < 3000 ∧ se ≤ i ∧ i < 3000 by have := HR.out.hsei; omega)
        have hse3 : se < 3000 := HSi.out.1
        obtain ⟨hJ, hEv⟩ := ev_any HWb.out HR.out.j ⟨sk, sow, sx, sl⟩
        have HJ' := hid hJ
        have HEv := hid hEv
        have HLd := hid (show (dyingL b).length ≤ 3000 by have := dying_len' HWb.out HR.out.j; have := HR.out.hse; have := HSi.out; omega)
        clear hg hst hbw qb hfit hi hJ hEv
        go_wp2_with fail
        have HBx := hid (Bl.new wr ⟨sk, sow, sx, sl⟩)
        have HLv := hid (HR.out.lv.step (alloc_fr _ (.cells #[.int .i64 sk, .int .i64 sow, .int .i64 sx, .bool sl] 32) _))
        have HO9 := hid (HR.out.ow.keep (alloc_fr _ (.cells #[.int .i64 sk, .int .i64 sow, .int .i64 sx, .bool sl] 32) _))
        generalize wr.alloc (.cells #[.int .i64 sk, .int .i64 sow, .int .i64 sx, .bool sl] 32) = wb at *
        generalize wr.heap.size = N at *
        clear q0 q1 q2 q3 qb2
        refine (HLv.out.ask (fun m hb => heldM_any hb)).mono ?_
        rintro e y1 ⟨v12, rfl, ho, hf⟩
        have HLv := hid (HLv.out.step hf)
        have HO9 := hid (HO9.out.keep hf)
        have HBx := hid (HBx.out.step hf)
        have HO12 := hid ho
        clear hf ho
        go_wp2_with fail
        refine (HLv.out.ask (fun m hb => dyingM_any hb)).mono ?_
        rintro e y2 ⟨v13, rfl, ho, hf⟩
        have HO13 := hid (ho.mono HLv.out.fr.size)
        have HLv := hid (HLv.out.step hf)
        have HO9 := hid (HO9.out.keep hf)
        have HBx := hid (HBx.out.step hf)
        have HO12 := hid (HO12.out.keep hf)
        clear hf ho
        obtain ⟨x0, x1, x2, x3⟩ := HBx.out.cells
        dsimp only at x0 x1 x2 x3
        have xb := HBx.out.lt
        go_wp2_with fail
        refine (HLv.out.run (fun m hb => do_any hb ⟨sk, sow, sx, sl⟩ HFit.out)).mono ?_
        rintro e y3 ⟨rfl, hl, hk⟩
        have HLv := hid hl
        have HO9 := hid (kb_ow hk HO9.out)
        have HO12 := hid (kb_ow hk HO12.out)
        have HO13 := hid (kb_ow hk HO13.out)
        have HBx := hid (HBx.out.kb hk)
        clear hl hk x0 x1 x2 x3 xb
        obtain ⟨x0, x1, x2, x3⟩ := HBx.out.cells
        dsimp only at x0 x1 x2 x3
        have xb := HBx.out.lt
        clear x1 x2 x3
        rcases HEv.out with ⟨hR, hB⟩ | ⟨hR, hk, hg', hkb⟩ | ⟨hR, hk, hg', hkb⟩ | ⟨hR, hk, hg', hbg, hx⟩ | ⟨hR, hk, hg', hbg, hbg'⟩
        · rw [hR]
          rw [hB] at HLv HJ'
          have HIn : Hid (∀ (W : World) (b1 b2 : Nat) (v u : Value) (l : List Int), OwI W b1 v l → OwI W b2 u l → Calls Try.prog 20 #[v, u] W fun e w' => e = .returned (.bool true) ∧ Fr W w' (fun _ => False)) := fun W b1 b2 v u l h1 h2 => by
            have h := ints_any h1 h2
            rwa [show eqB l l = true by simp [eqB]] at h
          clear hB HEv hR
          go_wp2_with fail
          refine (HLv.out.ask (fun m hb => heldM_any hb)).mono ?_
          rintro e y4 ⟨v4, rfl, ho, hf⟩
          have HLv := hid (HLv.out.step hf)
          have HO9 := hid (HO9.out.keep hf)
          have HO12 := hid (HO12.out.keep hf)
          have HO13 := hid (HO13.out.keep hf)
          have HO4 := hid ho
          have HBx := hid (HBx.out.step hf)
          clear hf ho
          go_wp2_with fail
          refine (HIn.out _ _ _ _ _ _ HO12.out HO4.out).mono ?_
          rintro e y5 ⟨rfl, hf⟩
          have HLv := hid (HLv.out.step hf)
          have HO9 := hid (HO9.out.keep hf)
          have HO13 := hid (HO13.out.keep hf)
          have HBx := hid (HBx.out.step hf)
          clear hf HO12 HO4
          go_wp2_with fail
          refine (HLv.out.ask (fun m hb => dyingM_any hb)).mono ?_
          rintro e y6 ⟨v6, rfl, ho, hf⟩
          have HLv := hid (HLv.out.step hf)
          have HO9 := hid (HO9.out.keep hf)
          have HO13 := hid (HO13.out.keep hf)
          have HO4 := hid ho
          have HBx := hid (HBx.out.step hf)
          clear hf ho
          go_wp2_with fail
          refine (HIn.out _ _ _ _ _ _ HO13.out HO4.out).mono ?_
          rintro e y7 ⟨rfl, hf⟩
          have HLv := hid (HLv.out.step hf)
          have HO9 := hid (HO9.out.keep hf)
          have HBx := hid (HBx.out.step hf)
          clear hf HO13 HO4 x0 xb
          have HPq := hid ((Gb.refl b).pq HWb.out)
          have HSe := hid HR.out.hse
          have HSi' := hid (show se ≤ i + 1 ∧ i < 3000 ∧ n + se ≤ (i + 1) * 20000 by have := HSi.out; have := HR.out.hn; omega)
          have HNb' := hid (show n ≤ 70000000 by have := HSi.out; have := HR.out.hn; omega)
          have HLl := hid HR.out.len
          have HSw := hid HR.out.sw
          clear HR
          generalize hb' : b = b' at *
          generalize hse' : se = se' at *
          generalize hL' : L = L' at *
          -- the end of a round
          have HWf := hid HLv.out.wf
          have HMq := hid (HPq.out.mq HWf.out HJ'.out HSe.out)
          have HNc : Hid (∀ W n f, Lv w W B M b' n f → Calls Try.prog 21 #[.pointer (some ⟨B, 0, none⟩)] W fun x w' => x = .returned (.int .i64 ((se' : Int) + 1)) ∧ Fr W w' (fun _ => False)) := fun W n f h => by rw [HSe.out]; exact h.ask (fun m hb => now_any hb)
          have HLc : Hid (∀ W n f, Lv w W B M b' n f → Calls Try.prog 22 #[.pointer (some ⟨B, 0, none⟩)] W fun x w' => x = .returned (.int .i64 (((heldL b').length : Int) + ((dyingL b').length : Int))) ∧ Fr W w' (fun _ => False)) := fun W n f h => by
            have := h.ask (fun m hb => liveM_any hb)
            rw [show liveN b' = ((heldL b').length : Int) + ((dyingL b').length : Int) by unfold liveN; rw [dying_len]; omega] at this
            exact this
          have HHc : Hid (∀ W n f, Lv w W B M b' n f → Calls Try.prog 17 #[.pointer (some ⟨B, 0, none⟩)] W fun x w' => ∃ v, x = .returned v ∧ OwI w' W.heap.size v (heldL b') ∧ Fr W w' (fun _ => False)) := fun W n f h => h.ask (fun m hb => heldM_any hb)
          have HDc : Hid (∀ W n f, Lv w W B M b' n f → Calls Try.prog 18 #[.pointer (some ⟨B, 0, none⟩)] W fun x w' => ∃ v, x = .returned v ∧ OwI w' W.heap.size v (dyingL b') ∧ Fr W w' (fun _ => False)) := fun W n f h => h.ask (fun m hb => dyingM_any hb)
          have lH : (heldL b').length ≤ 4000 := by have := held_len HWf.out; have := HSe.out; have := HSi'.out; omega
          have lD : (dyingL b').length ≤ 4000 := by have := dying_len' HWf.out HJ'.out; have := HSe.out; have := HSi'.out; omega
          have sb : se' ≤ 3000 := by have := HSi'.out; omega
          have nb' := HNb'.out
          generalize hHH : heldL b' = H at *
          generalize hDD : dyingL b' = D at *
          go_wp2_with fail
          refine (HNc.out _ _ _ HLv.out).mono ?_
          rintro e x1 ⟨rfl, hf⟩
          have HLv := hid (HLv.out.step hf)
          have HO9 := hid (HO9.out.keep hf)
          clear hf
          go_wp2_with fail
          refine (HLc.out _ _ _ HLv.out).mono ?_
          rintro e x2 ⟨rfl, hf⟩
          have HLv := hid (HLv.out.step hf)
          have HO9 := hid (HO9.out.keep hf)
          clear hf
          go_wp2_with fail
          refine (HHc.out _ _ _ HLv.out).mono ?_
          rintro e x3 ⟨v3, rfl, ho, hf⟩
          obtain ⟨a3, c3, rfl, _, _⟩ := ho.at
          have HLv := hid (HLv.out.step hf)
          have HO9 := hid (HO9.out.keep hf)
          clear hf ho
          go_wp2_with fail
          refine (HDc.out _ _ _ HLv.out).mono ?_
          rintro e x4 ⟨v4, rfl, ho, hf⟩
          obtain ⟨a4, c4, rfl, _, _⟩ := ho.at
          have HLv := hid (HLv.out.step hf)
          have HO9 := hid (HO9.out.keep hf)
          clear hf ho
          go_wp2_with fail
          refine (HHc.out _ _ _ HLv.out).mono ?_
          rintro e x5 ⟨v5, rfl, ho, hf⟩
          have HLv := hid (HLv.out.step hf)
          have HO9 := hid (HO9.out.keep hf)
          have HO5 := hid ho
          clear hf ho
          go_wp2_with fail
          refine (HDc.out _ _ _ HLv.out).mono ?_
          rintro e x6 ⟨v6, rfl, ho, hf⟩
          have HLv := hid (HLv.out.step hf)
          have HO9 := hid (HO9.out.keep hf)
          have HO5 := hid (HO5.out.keep hf)
          have HO6 := hid ho
          clear hf ho
          go_wp2_with fail
          refine (moved_any HLv.out.mi HO5.out HO6.out HMq.out.1 sb (by omega) (by omega) (by omega)).mono ?_
          rintro e x7 ⟨rfl, hm7, hf7⟩
          obtain ⟨hl7, hk7⟩ := HLv.out.turn hf7 (hm7.eq HMq.out.2)
          have HLv := hid hl7
          have HO9 := hid (kb_ow hk7 HO9.out)
          clear hf7 hm7 hl7 hk7
          go_wp2_with fail
          go_roundg g
          case rel => exact ⟨i + 1, se', _, b', L', by simp, rfl, by have := HG.out; omega, ⟨HLv.out, HJ'.out, HSe.out, by have := HSi'.out; omega, by have := HSi'.out; omega, HO9.out, HLl.out, HSw.out⟩⟩
          case measure => omega
        · rw [hR]
          clear HEv
          generalize hb' : doB b ⟨sk, sow, sx, sl⟩ = b' at *
          dsimp only at hk
          rcases hk with hk | hk
          · subst hk
            have HPq := hid (hg'.pq HWb.out HR.out.j)
            rw [← HR.out.hse] at HPq
            obtain ⟨se', hse'⟩ : ∃ se' : Nat, se' = se + 1 := ⟨_, rfl⟩
            have eSe : (se : Int) + 1 = (se' : Int) := by omega
            rw [eSe] at HPq
            have HSe := hid (show (se' : Int) + 1 = b'.now by have := hg'.now; have := HR.out.hse; omega)
            have HSi' := hid (show se' ≤ i + 1 ∧ i < 3000 ∧ n + 1 + se' ≤ (i + 1) * 20000 by have := HSi.out; have := HR.out.hn; omega)
            have HNb' := hid (show n + 1 ≤ 70000000 by have := HSi.out; have := HR.out.hn; omega)
            have HLl := hid HR.out.len
            have HSw : Hid (b'.begun = true → ∀ x, x ∈ L ↔ x ∈ b'.sets 66) := fun h x => by rw [hkb.2]; exact HR.out.sw (hkb.1.symm.trans h) x
            have hnn : n < maxLen := by have := HNb'.out; unfold maxLen; omega
            have HSf := hid (show fits ((se : Int) + 1) by unfold fits; omega)
            have HEs := hid eSe
            clear HR hg' hkb hR hse' eSe
            go_wp2_with (at_mapUpdate; go_must (refine wpl_mi rfl _ _ _ rfl M n (stF b) ((se : Int) + 1) 1 rfl rfl rfl HLv.out.mi hnn HSf.out (by unfold fits; omega) ?_))
            intro y4 hm4 hg4
            obtain ⟨hl4, hk4⟩ := HLv.out.turn ((Fr.refl y3 (fun k => k = M)).grown hg4 (fun k _ e => by cases e; rfl)) hm4
            rw [HEs.out] at hl4
            have HLv := hid hl4
            have HO9 := hid (kb_ow hk4 HO9.out)
            have HBx := hid (HBx.out.kb hk4)
            clear hm4 hg4 hl4 hk4 x0 xb hnn
            obtain ⟨x0, x1, x2, x3⟩ := HBx.out.cells
            dsimp only at x0 x1 x2 x3
            have xb := HBx.out.lt
            clear x1 x2 x3
            rw [HEs.out]
            generalize hL' : L = L' at *
            -- the end of a round
            have HWf := hid HLv.out.wf
            have HMq := hid (HPq.out.mq HWf.out HJ'.out HSe.out)
            have HNc : Hid (∀ W n f, Lv w W B M b' n f → Calls Try.prog 21 #[.pointer (some ⟨B, 0, none⟩)] W fun x w' => x = .returned (.int .i64 ((se' : Int) + 1)) ∧ Fr W w' (fun _ => False)) := fun W n f h => by rw [HSe.out]; exact h.ask (fun m hb => now_any hb)
            have HLc : Hid (∀ W n f, Lv w W B M b' n f → Calls Try.prog 22 #[.pointer (some ⟨B, 0, none⟩)] W fun x w' => x = .returned (.int .i64 (((heldL b').length : Int) + ((dyingL b').length : Int))) ∧ Fr W w' (fun _ => False)) := fun W n f h => by
              have := h.ask (fun m hb => liveM_any hb)
              rw [show liveN b' = ((heldL b').length : Int) + ((dyingL b').length : Int) by unfold liveN; rw [dying_len]; omega] at this
              exact this
            have HHc : Hid (∀ W n f, Lv w W B M b' n f → Calls Try.prog 17 #[.pointer (some ⟨B, 0, none⟩)] W fun x w' => ∃ v, x = .returned v ∧ OwI w' W.heap.size v (heldL b') ∧ Fr W w' (fun _ => False)) := fun W n f h => h.ask (fun m hb => heldM_any hb)
            have HDc : Hid (∀ W n f, Lv w W B M b' n f → Calls Try.prog 18 #[.pointer (some ⟨B, 0, none⟩)] W fun x w' => ∃ v, x = .returned v ∧ OwI w' W.heap.size v (dyingL b') ∧ Fr W w' (fun _ => False)) := fun W n f h => h.ask (fun m hb => dyingM_any hb)
            have lH : (heldL b').length ≤ 4000 := by have := held_len HWf.out; have := HSe.out; have := HSi'.out; omega
            have lD : (dyingL b').length ≤ 4000 := by have := dying_len' HWf.out HJ'.out; have := HSe.out; have := HSi'.out; omega
            have sb : se' ≤ 3000 := by have := HSi'.out; omega
            have nb' := HNb'.out
            generalize hHH : heldL b' = H at *
            generalize hDD : dyingL b' = D at *
            go_wp2_with fail
            refine (HNc.out _ _ _ HLv.out).mono ?_
            rintro e x1 ⟨rfl, hf⟩
            have HLv := hid (HLv.out.step hf)
            have HO9 := hid (HO9.out.keep hf)
            clear hf
            go_wp2_with fail
            refine (HLc.out _ _ _ HLv.out).mono ?_
            rintro e x2 ⟨rfl, hf⟩
            have HLv := hid (HLv.out.step hf)
            have HO9 := hid (HO9.out.keep hf)
            clear hf
            go_wp2_with fail
            refine (HHc.out _ _ _ HLv.out).mono ?_
            rintro e x3 ⟨v3, rfl, ho, hf⟩
            obtain ⟨a3, c3, rfl, _, _⟩ := ho.at
            have HLv := hid (HLv.out.step hf)
            have HO9 := hid (HO9.out.keep hf)
            clear hf ho
            go_wp2_with fail
            refine (HDc.out _ _ _ HLv.out).mono ?_
            rintro e x4 ⟨v4, rfl, ho, hf⟩
            obtain ⟨a4, c4, rfl, _, _⟩ := ho.at
            have HLv := hid (HLv.out.step hf)
            have HO9 := hid (HO9.out.keep hf)
            clear hf ho
            go_wp2_with fail
            refine (HHc.out _ _ _ HLv.out).mono ?_
            rintro e x5 ⟨v5, rfl, ho, hf⟩
            have HLv := hid (HLv.out.step hf)
            have HO9 := hid (HO9.out.keep hf)
            have HO5 := hid ho
            clear hf ho
            go_wp2_with fail
            refine (HDc.out _ _ _ HLv.out).mono ?_
            rintro e x6 ⟨v6, rfl, ho, hf⟩
            have HLv := hid (HLv.out.step hf)
            have HO9 := hid (HO9.out.keep hf)
            have HO5 := hid (HO5.out.keep hf)
            have HO6 := hid ho
            clear hf ho
            go_wp2_with fail
            refine (moved_any HLv.out.mi HO5.out HO6.out HMq.out.1 sb (by omega) (by omega) (by omega)).mono ?_
            rintro e x7 ⟨rfl, hm7, hf7⟩
            obtain ⟨hl7, hk7⟩ := HLv.out.turn hf7 (hm7.eq HMq.out.2)
            have HLv := hid hl7
            have HO9 := hid (kb_ow hk7 HO9.out)
            clear hf7 hm7 hl7 hk7
            go_wp2_with fail
            go_roundg g
            case rel => exact ⟨i + 1, se', _, b', L', by simp, rfl, by have := HG.out; omega, ⟨HLv.out, HJ'.out, HSe.out, by have := HSi'.out; omega, by have := HSi'.out; omega, HO9.out, HLl.out, HSw.out⟩⟩
            case measure => omega
          · subst hk
            have HPq := hid (hg'.pq HWb.out HR.out.j)
            rw [← HR.out.hse] at HPq
            obtain ⟨se', hse'⟩ : ∃ se' : Nat, se' = se + 1 := ⟨_, rfl⟩
            have eSe : (se : Int) + 1 = (se' : Int) := by omega
            rw [eSe] at HPq
            have HSe := hid (show (se' : Int) + 1 = b'.now by have := hg'.now; have := HR.out.hse; omega)
            have HSi' := hid (show se' ≤ i + 1 ∧ i < 3000 ∧ n + 1 + se' ≤ (i + 1) * 20000 by have := HSi.out; have := HR.out.hn; omega)
            have HNb' := hid (show n + 1 ≤ 70000000 by have := HSi.out; have := HR.out.hn; omega)
            have HLl := hid HR.out.len
            have HSw : Hid (b'.begun = true → ∀ x, x ∈ L ↔ x ∈ b'.sets 66) := fun h x => by rw [hkb.2]; exact HR.out.sw (hkb.1.symm.trans h) x
            have hnn : n < maxLen := by have := HNb'.out; unfold maxLen; omega
            have HSf := hid (show fits ((se : Int) + 1) by unfold fits; omega)
            have HEs := hid eSe
            clear HR hg' hkb hR hse' eSe
            go_wp2_with (at_mapUpdate; go_must (refine wpl_mi rfl _ _ _ rfl M n (stF b) ((se : Int) + 1) 1 rfl rfl rfl HLv.out.mi hnn HSf.out (by unfold fits; omega) ?_))
            intro y4 hm4 hg4
            obtain ⟨hl4, hk4⟩ := HLv.out.turn ((Fr.refl y3 (fun k => k = M)).grown hg4 (fun k _ e => by cases e; rfl)) hm4
            rw [HEs.out] at hl4
            have HLv := hid hl4
            have HO9 := hid (kb_ow hk4 HO9.out)
            have HBx := hid (HBx.out.kb hk4)
            clear hm4 hg4 hl4 hk4 x0 xb hnn
            obtain ⟨x0, x1, x2, x3⟩ := HBx.out.cells
            dsimp only at x0 x1 x2 x3
            have xb := HBx.out.lt
            clear x1 x2 x3
            rw [HEs.out]
            generalize hL' : L = L' at *
            -- the end of a round
            have HWf := hid HLv.out.wf
            have HMq := hid (HPq.out.mq HWf.out HJ'.out HSe.out)
            have HNc : Hid (∀ W n f, Lv w W B M b' n f → Calls Try.prog 21 #[.pointer (some ⟨B, 0, none⟩)] W fun x w' => x = .returned (.int .i64 ((se' : Int) + 1)) ∧ Fr W w' (fun _ => False)) := fun W n f h => by rw [HSe.out]; exact h.ask (fun m hb => now_any hb)
            have HLc : Hid (∀ W n f, Lv w W B M b' n f → Calls Try.prog 22 #[.pointer (some ⟨B, 0, none⟩)] W fun x w' => x = .returned (.int .i64 (((heldL b').length : Int) + ((dyingL b').length : Int))) ∧ Fr W w' (fun _ => False)) := fun W n f h => by
              have := h.ask (fun m hb => liveM_any hb)
              rw [show liveN b' = ((heldL b').length : Int) + ((dyingL b').length : Int) by unfold liveN; rw [dying_len]; omega] at this
              exact this
            have HHc : Hid (∀ W n f, Lv w W B M b' n f → Calls Try.prog 17 #[.pointer (some ⟨B, 0, none⟩)] W fun x w' => ∃ v, x = .returned v ∧ OwI w' W.heap.size v (heldL b') ∧ Fr W w' (fun _ => False)) := fun W n f h => h.ask (fun m hb => heldM_any hb)
            have HDc : Hid (∀ W n f, Lv w W B M b' n f → Calls Try.prog 18 #[.pointer (some ⟨B, 0, none⟩)] W fun x w' => ∃ v, x = .returned v ∧ OwI w' W.heap.size v (dyingL b') ∧ Fr W w' (fun _ => False)) := fun W n f h => h.ask (fun m hb => dyingM_any hb)
            have lH : (heldL b').length ≤ 4000 := by have := held_len HWf.out; have := HSe.out; have := HSi'.out; omega
            have lD : (dyingL b').length ≤ 4000 := by have := dying_len' HWf.out HJ'.out; have := HSe.out; have := HSi'.out; omega
            have sb : se' ≤ 3000 := by have := HSi'.out; omega
            have nb' := HNb'.out
            generalize hHH : heldL b' = H at *
            generalize hDD : dyingL b' = D at *
            go_wp2_with fail
            refine (HNc.out _ _ _ HLv.out).mono ?_
            rintro e x1 ⟨rfl, hf⟩
            have HLv := hid (HLv.out.step hf)
            have HO9 := hid (HO9.out.keep hf)
            clear hf
            go_wp2_with fail
            refine (HLc.out _ _ _ HLv.out).mono ?_
            rintro e x2 ⟨rfl, hf⟩
            have HLv := hid (HLv.out.step hf)
            have HO9 := hid (HO9.out.keep hf)
            clear hf
            go_wp2_with fail
            refine (HHc.out _ _ _ HLv.out).mono ?_
            rintro e x3 ⟨v3, rfl, ho, hf⟩
            obtain ⟨a3, c3, rfl, _, _⟩ := ho.at
            have HLv := hid (HLv.out.step hf)
            have HO9 := hid (HO9.out.keep hf)
            clear hf ho
            go_wp2_with fail
            refine (HDc.out _ _ _ HLv.out).mono ?_
            rintro e x4 ⟨v4, rfl, ho, hf⟩
            obtain ⟨a4, c4, rfl, _, _⟩ := ho.at
            have HLv := hid (HLv.out.step hf)
            have HO9 := hid (HO9.out.keep hf)
            clear hf ho
            go_wp2_with fail
            refine (HHc.out _ _ _ HLv.out).mono ?_
            rintro e x5 ⟨v5, rfl, ho, hf⟩
            have HLv := hid (HLv.out.step hf)
            have HO9 := hid (HO9.out.keep hf)
            have HO5 := hid ho
            clear hf ho
            go_wp2_with fail
            refine (HDc.out _ _ _ HLv.out).mono ?_
            rintro e x6 ⟨v6, rfl, ho, hf⟩
            have HLv := hid (HLv.out.step hf)
            have HO9 := hid (HO9.out.keep hf)
            have HO5 := hid (HO5.out.keep hf)
            have HO6 := hid ho
            clear hf ho
            go_wp2_with fail
            refine (moved_any HLv.out.mi HO5.out HO6.out HMq.out.1 sb (by omega) (by omega) (by omega)).mono ?_
            rintro e x7 ⟨rfl, hm7, hf7⟩
            obtain ⟨hl7, hk7⟩ := HLv.out.turn hf7 (hm7.eq HMq.out.2)
            have HLv := hid hl7
            have HO9 := hid (kb_ow hk7 HO9.out)
            clear hf7 hm7 hl7 hk7
            go_wp2_with fail
            go_roundg g
            case rel => exact ⟨i + 1, se', _, b', L', by simp, rfl, by have := HG.out; omega, ⟨HLv.out, HJ'.out, HSe.out, by have := HSi'.out; omega, by have := HSi'.out; omega, HO9.out, HLl.out, HSw.out⟩⟩
            case measure => omega
        · rw [hR]
          clear HEv
          generalize hb' : doB b ⟨sk, sow, sx, sl⟩ = b' at *
          dsimp only at hk
          obtain ⟨k1, k2, k7, k8⟩ := hk
          have d1 : (sk == 1) = false := by simp [k1]
          have d2 : (sk == 2) = false := by simp [k2]
          have d7 : (sk == 7) = false := by simp [k7]
          have d8 : (sk == 8) = false := by simp [k8]
          have e1 : decide (sk = 1) = false := by simp [k1]
          have e2 : decide (sk = 2) = false := by simp [k2]
          have e7 : decide (sk = 7) = false := by simp [k7]
          have e8 : decide (sk = 8) = false := by simp [k8]
          have HPq := hid (hg'.pq HWb.out)
          have HSe := hid (show (se : Int) + 1 = b'.now by rw [hg'.now]; exact HR.out.hse)
          have HSi' := hid (show se ≤ i + 1 ∧ i < 3000 ∧ n + se ≤ (i + 1) * 20000 by have := HSi.out; have := HR.out.hn; omega)
          have HNb' := hid (show n ≤ 70000000 by have := HSi.out; have := HR.out.hn; omega)
          have HLl := hid HR.out.len
          have HSw : Hid (b'.begun = true → ∀ x, x ∈ L ↔ x ∈ b'.sets 66) := fun h x => by rw [hkb.2]; exact HR.out.sw (hkb.1.symm.trans h) x
          clear HR hg' hkb hR
          generalize hse' : se = se' at *
          generalize hL' : L = L' at *
          -- the end of a round
          have HWf := hid HLv.out.wf
          have HMq := hid (HPq.out.mq HWf.out HJ'.out HSe.out)
          have HNc : Hid (∀ W n f, Lv w W B M b' n f → Calls Try.prog 21 #[.pointer (some ⟨B, 0, none⟩)] W fun x w' => x = .returned (.int .i64 ((se' : Int) + 1)) ∧ Fr W w' (fun _ => False)) := fun W n f h => by rw [HSe.out]; exact h.ask (fun m hb => now_any hb)
          have HLc : Hid (∀ W n f, Lv w W B M b' n f → Calls Try.prog 22 #[.pointer (some ⟨B, 0, none⟩)] W fun x w' => x = .returned (.int .i64 (((heldL b').length : Int) + ((dyingL b').length : Int))) ∧ Fr W w' (fun _ => False)) := fun W n f h => by
            have := h.ask (fun m hb => liveM_any hb)
            rw [show liveN b' = ((heldL b').length : Int) + ((dyingL b').length : Int) by unfold liveN; rw [dying_len]; omega] at this
            exact this
          have HHc : Hid (∀ W n f, Lv w W B M b' n f → Calls Try.prog 17 #[.pointer (some ⟨B, 0, none⟩)] W fun x w' => ∃ v, x = .returned v ∧ OwI w' W.heap.size v (heldL b') ∧ Fr W w' (fun _ => False)) := fun W n f h => h.ask (fun m hb => heldM_any hb)
          have HDc : Hid (∀ W n f, Lv w W B M b' n f → Calls Try.prog 18 #[.pointer (some ⟨B, 0, none⟩)] W fun x w' => ∃ v, x = .returned v ∧ OwI w' W.heap.size v (dyingL b') ∧ Fr W w' (fun _ => False)) := fun W n f h => h.ask (fun m hb => dyingM_any hb)
          have lH : (heldL b').length ≤ 4000 := by have := held_len HWf.out; have := HSe.out; have := HSi'.out; omega
          have lD : (dyingL b').length ≤ 4000 := by have := dying_len' HWf.out HJ'.out; have := HSe.out; have := HSi'.out; omega
          have sb : se' ≤ 3000 := by have := HSi'.out; omega
          have nb' := HNb'.out
          generalize hHH : heldL b' = H at *
          generalize hDD : dyingL b' = D at *
          go_wp2_with fail
          refine (HNc.out _ _ _ HLv.out).mono ?_
          rintro e x1 ⟨rfl, hf⟩
          have HLv := hid (HLv.out.step hf)
          have HO9 := hid (HO9.out.keep hf)
          clear hf
          go_wp2_with fail
          refine (HLc.out _ _ _ HLv.out).mono ?_
          rintro e x2 ⟨rfl, hf⟩
          have HLv := hid (HLv.out.step hf)
          have HO9 := hid (HO9.out.keep hf)
          clear hf
          go_wp2_with fail
          refine (HHc.out _ _ _ HLv.out).mono ?_
          rintro e x3 ⟨v3, rfl, ho, hf⟩
          obtain ⟨a3, c3, rfl, _, _⟩ := ho.at
          have HLv := hid (HLv.out.step hf)
          have HO9 := hid (HO9.out.keep hf)
          clear hf ho
          go_wp2_with fail
          refine (HDc.out _ _ _ HLv.out).mono ?_
          rintro e x4 ⟨v4, rfl, ho, hf⟩
          obtain ⟨a4, c4, rfl, _, _⟩ := ho.at
          have HLv := hid (HLv.out.step hf)
          have HO9 := hid (HO9.out.keep hf)
          clear hf ho
          go_wp2_with fail
          refine (HHc.out _ _ _ HLv.out).mono ?_
          rintro e x5 ⟨v5, rfl, ho, hf⟩
          have HLv := hid (HLv.out.step hf)
          have HO9 := hid (HO9.out.keep hf)
          have HO5 := hid ho
          clear hf ho
          go_wp2_with fail
          refine (HDc.out _ _ _ HLv.out).mono ?_
          rintro e x6 ⟨v6, rfl, ho, hf⟩
          have HLv := hid (HLv.out.step hf)
          have HO9 := hid (HO9.out.keep hf)
          have HO5 := hid (HO5.out.keep hf)
          have HO6 := hid ho
          clear hf ho
          go_wp2_with fail
          refine (moved_any HLv.out.mi HO5.out HO6.out HMq.out.1 sb (by omega) (by omega) (by omega)).mono ?_
          rintro e x7 ⟨rfl, hm7, hf7⟩
          obtain ⟨hl7, hk7⟩ := HLv.out.turn hf7 (hm7.eq HMq.out.2)
          have HLv := hid hl7
          have HO9 := hid (kb_ow hk7 HO9.out)
          clear hf7 hm7 hl7 hk7
          go_wp2_with fail
          go_roundg g
          case rel => exact ⟨i + 1, se', _, b', L', by simp, rfl, by have := HG.out; omega, ⟨HLv.out, HJ'.out, HSe.out, by have := HSi'.out; omega, by have := HSi'.out; omega, HO9.out, HLl.out, HSw.out⟩⟩
          case measure => omega
        · rw [hR]
          clear HEv
          generalize hb' : doB b ⟨sk, sow, sx, sl⟩ = b' at *
          dsimp only at hk
          subst hk
          have HPq := hid (hg'.pq HWb.out)
          have HSe := hid (show (se : Int) + 1 = b'.now by rw [hg'.now]; exact HR.out.hse)
          have HSi' := hid (show se ≤ i + 1 ∧ i < 3000 ∧ n + se ≤ (i + 1) * 20000 by have := HSi.out; have := HR.out.hn; omega)
          have HNb' := hid (show n ≤ 70000000 by have := HSi.out; have := HR.out.hn; omega)
          have HSw : Hid (b'.begun = true → ∀ x, x ∈ dyingL b ↔ x ∈ b'.sets 66) := fun _ x => hx x
          clear HR hg' hR hx hbg HO9
          have HO9 := HO13
          have HLl := HLd
          clear HO13 HLd
          generalize hse' : se = se' at *
          generalize hL' : dyingL b = L' at *
          -- the end of a round
          have HWf := hid HLv.out.wf
          have HMq := hid (HPq.out.mq HWf.out HJ'.out HSe.out)
          have HNc : Hid (∀ W n f, Lv w W B M b' n f → Calls Try.prog 21 #[.pointer (some ⟨B, 0, none⟩)] W fun x w' => x = .returned (.int .i64 ((se' : Int) + 1)) ∧ Fr W w' (fun _ => False)) := fun W n f h => by rw [HSe.out]; exact h.ask (fun m hb => now_any hb)
          have HLc : Hid (∀ W n f, Lv w W B M b' n f → Calls Try.prog 22 #[.pointer (some ⟨B, 0, none⟩)] W fun x w' => x = .returned (.int .i64 (((heldL b').length : Int) + ((dyingL b').length : Int))) ∧ Fr W w' (fun _ => False)) := fun W n f h => by
            have := h.ask (fun m hb => liveM_any hb)
            rw [show liveN b' = ((heldL b').length : Int) + ((dyingL b').length : Int) by unfold liveN; rw [dying_len]; omega] at this
            exact this
          have HHc : Hid (∀ W n f, Lv w W B M b' n f → Calls Try.prog 17 #[.pointer (some ⟨B, 0, none⟩)] W fun x w' => ∃ v, x = .returned v ∧ OwI w' W.heap.size v (heldL b') ∧ Fr W w' (fun _ => False)) := fun W n f h => h.ask (fun m hb => heldM_any hb)
          have HDc : Hid (∀ W n f, Lv w W B M b' n f → Calls Try.prog 18 #[.pointer (some ⟨B, 0, none⟩)] W fun x w' => ∃ v, x = .returned v ∧ OwI w' W.heap.size v (dyingL b') ∧ Fr W w' (fun _ => False)) := fun W n f h => h.ask (fun m hb => dyingM_any hb)
          have lH : (heldL b').length ≤ 4000 := by have := held_len HWf.out; have := HSe.out; have := HSi'.out; omega
          have lD : (dyingL b').length ≤ 4000 := by have := dying_len' HWf.out HJ'.out; have := HSe.out; have := HSi'.out; omega
          have sb : se' ≤ 3000 := by have := HSi'.out; omega
          have nb' := HNb'.out
          generalize hHH : heldL b' = H at *
          generalize hDD : dyingL b' = D at *
          go_wp2_with fail
          refine (HNc.out _ _ _ HLv.out).mono ?_
          rintro e x1 ⟨rfl, hf⟩
          have HLv := hid (HLv.out.step hf)
          have HO9 := hid (HO9.out.keep hf)
          clear hf
          go_wp2_with fail
          refine (HLc.out _ _ _ HLv.out).mono ?_
          rintro e x2 ⟨rfl, hf⟩
          have HLv := hid (HLv.out.step hf)
          have HO9 := hid (HO9.out.keep hf)
          clear hf
          go_wp2_with fail
          refine (HHc.out _ _ _ HLv.out).mono ?_
          rintro e x3 ⟨v3, rfl, ho, hf⟩
          obtain ⟨a3, c3, rfl, _, _⟩ := ho.at
          have HLv := hid (HLv.out.step hf)
          have HO9 := hid (HO9.out.keep hf)
          clear hf ho
          go_wp2_with fail
          refine (HDc.out _ _ _ HLv.out).mono ?_
          rintro e x4 ⟨v4, rfl, ho, hf⟩
          obtain ⟨a4, c4, rfl, _, _⟩ := ho.at
          have HLv := hid (HLv.out.step hf)
          have HO9 := hid (HO9.out.keep hf)
          clear hf ho
          go_wp2_with fail
          refine (HHc.out _ _ _ HLv.out).mono ?_
          rintro e x5 ⟨v5, rfl, ho, hf⟩
          have HLv := hid (HLv.out.step hf)
          have HO9 := hid (HO9.out.keep hf)
          have HO5 := hid ho
          clear hf ho
          go_wp2_with fail
          refine (HDc.out _ _ _ HLv.out).mono ?_
          rintro e x6 ⟨v6, rfl, ho, hf⟩
          have HLv := hid (HLv.out.step hf)
          have HO9 := hid (HO9.out.keep hf)
          have HO5 := hid (HO5.out.keep hf)
          have HO6 := hid ho
          clear hf ho
          go_wp2_with fail
          refine (moved_any HLv.out.mi HO5.out HO6.out HMq.out.1 sb (by omega) (by omega) (by omega)).mono ?_
          rintro e x7 ⟨rfl, hm7, hf7⟩
          obtain ⟨hl7, hk7⟩ := HLv.out.turn hf7 (hm7.eq HMq.out.2)
          have HLv := hid hl7
          have HO9 := hid (kb_ow hk7 HO9.out)
          clear hf7 hm7 hl7 hk7
          go_wp2_with fail
          go_roundg g
          case rel => exact ⟨i + 1, se', _, b', L', by simp, rfl, by have := HG.out; omega, ⟨HLv.out, HJ'.out, HSe.out, by have := HSi'.out; omega, by have := HSi'.out; omega, HO9.out, HLl.out, HSw.out⟩⟩
          case measure => omega
        · rw [hR]
          clear HEv
          generalize hb' : doB b ⟨sk, sow, sx, sl⟩ = b' at *
          dsimp only at hk
          subst hk
          have HLi := hid (HR.out.sw hbg)
          have HPq := hid (hg'.pq HWb.out HR.out.j HLi.out)
          have HSe := hid (show (se : Int) + 1 = b'.now by rw [hg'.now]; exact HR.out.hse)
          have HSi' := hid (show se ≤ i + 1 ∧ i < 3000 ∧ n + L.length + se ≤ (i + 1) * 20000 by have := HSi.out; have := HR.out.hn; have := HR.out.len; omega)
          have HNb' := hid (show n + L.length ≤ 70000000 by have := HSi.out; have := HR.out.hn; have := HR.out.len; omega)
          have HLl := hid HR.out.len
          have lL := HR.out.len
          have nL : n ≤ 70000000 := by have := HNb'.out; omega
          have HSw : Hid (b'.begun = true → ∀ x, x ∈ L ↔ x ∈ b'.sets 66) := fun h => by rw [hbg'] at h; cases h
          have HXf : Hid (∀ x ∈ L, fits x) := fun x hx => by
            have := HWb.out.lo 66 x ((HLi.out x).1 hx)
            have := HWb.out.now
            unfold fits
            omega
          obtain ⟨a9, c9, rfl, _, _⟩ := HO9.out.at
          clear HR hg' hR hbg hbg'
          go_wp2_with fail
          go_loopg [15] L.length (fun g2 s15 wx => ∃ j : Nat, s15 = .int .i64 (j : Int) ∧ j + g2 = L.length ∧ Hid (Lv w wx B M b' (n + j) (swF (L.take j) (stF b))) ∧ Hid (OwI wx w.heap.size (.slice a9 L.length c9) L))
          case atStart => exact ⟨0, rfl, by omega, HLv.out.eq (fun x => by simp [swF]), HO9⟩
          case round =>
            clear HLv HO9 HO12 HO13 HBx x0 xb
            obtain ⟨q, rfl, hgq, HLv, HO9⟩ := hrel
            cases gk with
            | zero =>
              have t5 : ¬ (q : Int) < (L.length : Int) := by omega
              have HLv : Hid (Lv w wr B M b' (n + L.length) (swF L (stF b))) := by
                have h := HLv.out
                rw [show q = L.length by omega, List.take_length] at h
                exact h
              clear hgq HXf HLi
              have hLe := hid (rfl : L.length = L.length)
              generalize hse' : se = se' at *
              obtain ⟨L', hL'⟩ : ∃ L', L' = L := ⟨_, rfl⟩
              subst hL'
              -- the end of a round
              have HWf := hid HLv.out.wf
              have HMq := hid (HPq.out.mq HWf.out HJ'.out HSe.out)
              have HNc : Hid (∀ W n f, Lv w W B M b' n f → Calls Try.prog 21 #[.pointer (some ⟨B, 0, none⟩)] W fun x w' => x = .returned (.int .i64 ((se' : Int) + 1)) ∧ Fr W w' (fun _ => False)) := fun W n f h => by rw [HSe.out]; exact h.ask (fun m hb => now_any hb)
              have HLc : Hid (∀ W n f, Lv w W B M b' n f → Calls Try.prog 22 #[.pointer (some ⟨B, 0, none⟩)] W fun x w' => x = .returned (.int .i64 (((heldL b').length : Int) + ((dyingL b').length : Int))) ∧ Fr W w' (fun _ => False)) := fun W n f h => by
                have := h.ask (fun m hb => liveM_any hb)
                rw [show liveN b' = ((heldL b').length : Int) + ((dyingL b').length : Int) by unfold liveN; rw [dying_len]; omega] at this
                exact this
              have HHc : Hid (∀ W n f, Lv w W B M b' n f → Calls Try.prog 17 #[.pointer (some ⟨B, 0, none⟩)] W fun x w' => ∃ v, x = .returned v ∧ OwI w' W.heap.size v (heldL b') ∧ Fr W w' (fun _ => False)) := fun W n f h => h.ask (fun m hb => heldM_any hb)
              have HDc : Hid (∀ W n f, Lv w W B M b' n f → Calls Try.prog 18 #[.pointer (some ⟨B, 0, none⟩)] W fun x w' => ∃ v, x = .returned v ∧ OwI w' W.heap.size v (dyingL b') ∧ Fr W w' (fun _ => False)) := fun W n f h => h.ask (fun m hb => dyingM_any hb)
              have lH : (heldL b').length ≤ 4000 := by have := held_len HWf.out; have := HSe.out; have := HSi'.out; omega
              have lD : (dyingL b').length ≤ 4000 := by have := dying_len' HWf.out HJ'.out; have := HSe.out; have := HSi'.out; omega
              have sb : se' ≤ 3000 := by have := HSi'.out; omega
              have nb' := HNb'.out
              generalize hHH : heldL b' = H at *
              generalize hDD : dyingL b' = D at *
              go_wp2_with fail
              refine (HNc.out _ _ _ HLv.out).mono ?_
              rintro e x1 ⟨rfl, hf⟩
              have HLv := hid (HLv.out.step hf)
              have HO9 := hid (HO9.out.keep hf)
              clear hf
              go_wp2_with fail
              refine (HLc.out _ _ _ HLv.out).mono ?_
              rintro e x2 ⟨rfl, hf⟩
              have HLv := hid (HLv.out.step hf)
              have HO9 := hid (HO9.out.keep hf)
              clear hf
              go_wp2_with fail
              refine (HHc.out _ _ _ HLv.out).mono ?_
              rintro e x3 ⟨v3, rfl, ho, hf⟩
              obtain ⟨a3, c3, rfl, _, _⟩ := ho.at
              have HLv := hid (HLv.out.step hf)
              have HO9 := hid (HO9.out.keep hf)
              clear hf ho
              go_wp2_with fail
              refine (HDc.out _ _ _ HLv.out).mono ?_
              rintro e x4 ⟨v4, rfl, ho, hf⟩
              obtain ⟨a4, c4, rfl, _, _⟩ := ho.at
              have HLv := hid (HLv.out.step hf)
              have HO9 := hid (HO9.out.keep hf)
              clear hf ho
              go_wp2_with fail
              refine (HHc.out _ _ _ HLv.out).mono ?_
              rintro e x5 ⟨v5, rfl, ho, hf⟩
              have HLv := hid (HLv.out.step hf)
              have HO9 := hid (HO9.out.keep hf)
              have HO5 := hid ho
              clear hf ho
              go_wp2_with fail
              refine (HDc.out _ _ _ HLv.out).mono ?_
              rintro e x6 ⟨v6, rfl, ho, hf⟩
              have HLv := hid (HLv.out.step hf)
              have HO9 := hid (HO9.out.keep hf)
              have HO5 := hid (HO5.out.keep hf)
              have HO6 := hid ho
              clear hf ho
              go_wp2_with fail
              refine (moved_any HLv.out.mi HO5.out HO6.out HMq.out.1 sb (by omega) (by omega) (by omega)).mono ?_
              rintro e x7 ⟨rfl, hm7, hf7⟩
              obtain ⟨hl7, hk7⟩ := HLv.out.turn hf7 (hm7.eq HMq.out.2)
              have HLv := hid hl7
              have HO9 := hid (kb_ow hk7 HO9.out)
              clear hf7 hm7 hl7 hk7
              go_wp2_with fail
              go_roundg g
              case rel => exact ⟨i + 1, se', _, b', L', by simp, rfl, by have := HG.out; omega, ⟨HLv.out, HJ'.out, HSe.out, by have := HSi'.out; omega, by have := HSi'.out; omega, HO9.out, HLl.out, HSw.out⟩⟩
              case measure => omega
            | succ g2 =>
              have hq : q < L.length := by omega
              have t5 : (q : Int) < (L.length : Int) := by omega
              obtain ⟨g9, rfl, c1⟩ := HO9.out.cell hq
              have b1 := World.block_lt_of_cell? wr _ c1
              dsimp only at b1
              have HX := hid (HXf.out _ (getD_mem hq))
              have HStp := hid (swF_step (f := stF b) hq)
              have HGq := hid hgq
              have hnn : n + q < maxLen := by unfold maxLen; omega
              generalize L.getD q 0 = x at *
              clear hgq hq
              go_wp2_with (at_mapUpdate; go_must (refine wpl_mi rfl _ _ _ rfl M (n + q) (swF (L.take q) (stF b)) x 3 rfl rfl rfl HLv.out.mi hnn HX.out (by unfold fits; omega) ?_))
              intro y4 hm4 hg4
              obtain ⟨hl4, hk4⟩ := HLv.out.turn ((Fr.refl wr (fun k => k = M)).grown hg4 (fun k _ e => by cases e; rfl)) (hm4.eq HStp.out)
              have HLv := hid hl4
              have HO9 := hid (kb_ow hk4 HO9.out)
              clear hm4 hg4 hl4 hk4 hnn
              go_wp2_with fail
              go_roundg g2
              case rel => exact ⟨q + 1, by simp, by have := HGq.out; omega, HLv, HO9⟩
              case measure => omega
end Go.Proofs.Ytekooeekaigmaaa.E
