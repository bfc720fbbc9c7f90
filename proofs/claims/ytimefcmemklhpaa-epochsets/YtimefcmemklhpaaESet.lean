/- EpochSets: the walk. -/
import Derived.Test.YtimefcmemklhpaaESetH
namespace Go.Proofs.Ytimefcmemklhpaa.E
open Go.RowKit Go.Maps Go.MuLone

theorem neM_some (b : Nat) (W : World) : (binOp .neq 49 (.map (some b)) (.map none)).run Try.prog W = .ok (.bool true) W := by kernel_rfl
theorem neM_none (W : World) : (binOp .neq 49 (.map none) (.map none)).run Try.prog W = .ok (.bool false) W := by kernel_rfl
/-- What stands at the end of a round, of the book alone. -/
structure Rp (i : Nat) (b : Bo) (pins : Int) : Prop where
  s0 : b.sets 0 = []
  i0 : b.inn 0 = 0
  now : b.now ≤ (i : Int) + 1
  pins : b.pins = pins
def Rs (w W : World) (B M J i : Nat) (b : Bo) (pins : Int) : Prop := Rp i b pins ∧ ∃ (sM : Nat → Nat) (n n' : Nat), Sx w W B M J sM b b.sets b.inn n n' ∧ n ≤ 64 + i ∧ n' ≤ i
theorem Rp.goes {w W : World} {B M J i n n' o : Nat} {sM : Nat → Nat} {b b' : Bo} {pins : Int} {l : Nat → List Int} {v : Nat → Int} {l2 : List Int} {v2 : Int} (h : Rp i b pins) (hs : Sx w W B M J sM b' l v n n') (hn : n ≤ 64 + i + 1) (hn' : n' ≤ i + 1)
    (ef : Ef b b' o l2 v2) (ho : Ow o) (hl : ∀ j, Ow j → l j = upd b.sets o l2 j) (hv : ∀ j, Ow j → v j = upd b.inn o v2 j) : Rs w W B M J (i + 1) b' pins := by
  refine ⟨⟨?_, ?_, ?_, ?_⟩, sM, n, n', hs.eq (fun j hj => ?_) (fun j hj => ?_), by omega, by omega⟩
  · rw [ef.sets 0 (by omega), upd_other _ _ (by omega)]; exact h.s0
  · rw [ef.inn 0 (by omega), upd_other _ _ (by omega)]; exact h.i0
  · have := ef.now; have := h.now; omega
  · rw [ef.pins]; exact h.pins
  · rw [hl j hj, ef.sets j (by omega)]
  · rw [hv j hj, ef.inn j (by omega)]
theorem Rp.stays {w W : World} {B M J i n n' : Nat} {sM : Nat → Nat} {b : Bo} {pins : Int} (h : Rp i b pins) (hs : Sx w W B M J sM b b.sets b.inn n n') (hn : n ≤ 64 + i + 1) (hn' : n' ≤ i + 1) : Rs w W B M J (i + 1) b pins :=
  ⟨⟨h.s0, h.i0, by have := h.now; omega, h.pins⟩, sM, n, n', hs, by omega, by omega⟩

set_option maxHeartbeats 8000000 in
set_option maxRecDepth 100000 in
theorem sets_walk (w : World) (pins : Int) {v : Value} {ss : List Stp} (hs : Sc w v ss) :
    Calls Try.prog 5 #[.int .i64 pins, v] w fun e w' => e = .returned (.bool true) ∧ Fr w w' (fun _ => False) := by
  obtain ⟨ao, cap, rfl, hsc⟩ := hs
  have HSC := hid hsc
  clear hsc
  by_cases hb : 3000 < ss.length ∨ pins < 1 ∨ 64 < pins
  · have HBB := hid hb
    go_enter Try.func5, Try.ntmps5
    go_wp2_with fail
    refine (known_any w).mono ?_
    rintro e w1 ⟨rfl, hf1⟩
    have HF := hid hf1
    clear hf1
    rcases hb with hb | hb | hb
    · have t1 : (3000 : Int) < (ss.length : Int) := by omega
      go_wp2_with fail
      go_ret
      exact ⟨rfl, HF.out⟩
    · by_cases t1 : (3000 : Int) < (ss.length : Int)
      · go_wp2_with fail
        go_ret
        exact ⟨rfl, HF.out⟩
      · go_wp2_with fail
        go_ret
        exact ⟨rfl, HF.out⟩
    · by_cases t1 : (3000 : Int) < (ss.length : Int)
      · go_wp2_with fail
        go_ret
        exact ⟨rfl, HF.out⟩
      · have t2 : ¬ pins < 1 := by omega
        go_wp2_with fail
        go_ret
        exact ⟨rfl, HF.out⟩
  · have t1 : ¬ (3000 : Int) < (ss.length : Int) := by omega
    have t2 : ¬ pins < 1 := by omega
    have t3 : ¬ 64 < pins := by omega
    have HP := hid (show 1 ≤ pins ∧ pins ≤ 64 by omega)
    have hss : ss.length ≤ 3000 := by omega
    clear hb
    have hmm := @run_makeMap Try.prog
    go_enter Try.func5, Try.ntmps5
    go_wp2_with fail
    refine (known_any w).mono ?_
    rintro e w1 ⟨rfl, hf1⟩
    have HF := hid hf1
    clear hf1
    go_wp2_with fail
    refine (new_any pins HP.out.1 HP.out.2 _).mono ?_
    rintro e w2 ⟨B, rfl, m1, hb1, hlo1, hf2⟩
    have HM0 := hid (Sm.start HF.out hb1 hlo1 hf2)
    clear hb1 hlo1 hf2
    go_wp2_with fail
    have hsz : (w2.alloc (.map #[] 0)).heap.size = w2.heap.size + 1 := by simp
    rw [hsz] at HM0
    generalize hW0 : (w2.alloc (.map #[] 0)).alloc (.map #[] 0) = w3 at *
    generalize hJ : w2.heap.size + 1 = J at *
    generalize w2.heap.size = M at *
    clear hW0 hJ hsz HF
    show Code.wp _ _ _ _ _
    go_loopg [9] 64 (fun g s9 wx => ∃ (k : Nat) (sM : Nat → Nat), s9 = .int .i64 ((k : Int) + 1) ∧ k + g = 64 ∧ Hid (Sm w wx B M J sM (newB pins) k))
    case atStart => exact ⟨0, _, rfl, by omega, HM0⟩
    case round =>
      obtain ⟨k, sM, rfl, hg, HM⟩ := hrel
      clear HM0
      cases gk with
      | succ g =>
        have t4 : (k : Int) + 1 ≤ 64 := by omega
        have HG := hid hg
        clear hg
        go_wp2_with (at_mapUpdate; go_must (refine wpl_mm rfl _ _ _ rfl M k _ ((k : Int) + 1) (some wr.heap.size) rfl rfl rfl (HM.out.mm.fr (alloc_fr _ _ (fun _ => False)) (fun h => h)) (by unfold maxLen; omega) (by unfold fits; omega) ?_))
        intro w4 hm hg4
        have HM4 := hid (HM.out.make rfl hm hg4)
        clear hm hg4 HM
        go_wp2_with fail
        go_roundg g
        case rel => exact ⟨k + 1, _, by simp, by have := HG.out; omega, HM4⟩
        case measure => omega
      | zero =>
        obtain rfl : k = 64 := by omega
        have HR0 : Hid (Rs w wr B M J 0 (newB pins) pins) := ⟨⟨rfl, rfl, by show (1 : Int) ≤ 0 + 1; omega, rfl⟩, sM, 64, 0, HM.out.full, by omega, by omega⟩
        clear hg HM
        go_wp2_with fail
        generalize wr = w4 at *
        clear hmm
        go_loopg [10] ss.length (fun g s10 wx => ∃ (i : Nat) (b : Bo), s10 = .int .i64 (i : Int) ∧ i + g = ss.length ∧ Hid (Rs w wx B M J i b pins))
        case atStart => exact ⟨0, newB pins, rfl, by omega, HR0⟩
        case round =>
          obtain ⟨i, b, rfl, hg, HR⟩ := hrel
          clear HR0
          obtain ⟨hrp, sM, n, n', hsx, hn, hn'⟩ := HR.out
          have HRp := hid hrp
          have HSx := hid hsx
          have HN := hid (And.intro hn hn')
          clear hrp hsx hn hn' HR
          cases gk with
          | zero =>
            have t4 : ¬ (i : Int) < (ss.length : Int) := by omega
            have HNw : Hid (b.now ≤ 5000) := by have := HRp.out.now; show b.now ≤ 5000; omega
            clear hg
            go_wp2_with fail
            refine (held2_any HSx.out HRp.out.s0 HRp.out.i0 HNw.out).mono ?_
            rintro e w5 ⟨rfl, hf⟩
            have HF5 := hid (HSx.out.fr.trans hf)
            clear hf
            go_wp2_with fail
            go_ret
            exact ⟨rfl, HF5.out⟩
          | succ g =>
            have hi : i < ss.length := by omega
            have t4 : (i : Int) < (ss.length : Int) := by omega
            obtain ⟨sb, so, rfl, hst⟩ := HSC.out (by rintro rfl; simp at hi)
            obtain ⟨q0, q1, q2, q3, hfit⟩ := hst i hi
            have hbw := HSx.out.fr.below (Nat.le_refl _) (fun _ h => h.elim)
            have qb := World.block_lt_of_cell? w _ q0
            have q0 := (hbw.cell (p := ⟨sb, so + i * 4, none⟩) qb).trans q0
            have q1 := (hbw.cell (p := ⟨sb, so + i * 4 + 1, none⟩) qb).trans q1
            have q2 := (hbw.cell (p := ⟨sb, so + i * 4 + 2, none⟩) qb).trans q2
            have q3 := (hbw.cell (p := ⟨sb, so + i * 4 + 3, none⟩) qb).trans q3
            have qb2 := World.block_lt_of_cell? wr _ q0
            dsimp only at qb2
            generalize ss.getD i st0 = s at *
            obtain ⟨sk, sow, sx, sl⟩ := s
            dsimp only at q0 q1 q2 q3
            have HFit := hid hfit
            have HG := hid hg
            have HI := hid (show i < 3000 by omega)
            have HWf := hid HSx.out.wf
            have HNw : Hid (1 ≤ b.now ∧ b.now ≤ 4000) := by have := HRp.out.now; have := HI.out; have := HWf.out.now; show 1 ≤ b.now ∧ b.now ≤ 4000; omega
            have HEf : Hid (fits (ofE ⟨sk, sow, sx, sl⟩ b.now)) := of_fits HFit.out b.now
            clear hg hst hbw qb hfit hi
            go_wp2_with fail
            have HBx := hid (Bl.new wr ⟨sk, sow, sx, sl⟩)
            have HSx := hid (HSx.out.step (alloc_fr wr (.cells #[.int .i64 sk, .int .i64 sow, .int .i64 sx, .bool sl] 32) _))
            generalize wr.alloc (.cells #[.int .i64 sk, .int .i64 sow, .int .i64 sx, .bool sl] 32) = wb at *
            generalize wr.heap.size = N at *
            clear q0 q1 q2 q3 qb2
            have HNo : Hid (∀ V, Fr wb V (fun _ => False) → Calls Try.prog 21 #[.pointer (some ⟨B, 0, none⟩)] V fun x w' => x = .returned (.int .i64 b.now) ∧ Fr V w' (fun _ => False)) := fun V hf => (HSx.out.step hf).ask (fun m hb => now_any hb)
            have HOf : Hid (∀ V, Calls Try.prog 24 #[.agg #[.int .i64 sk, .int .i64 sow, .int .i64 sx, .bool sl], .int .i64 b.now] V fun x w' => x = .returned (.int .i64 (ofE ⟨sk, sow, sx, sl⟩ b.now)) ∧ Fr V w' (fun _ => False)) := fun V => of_any ⟨sk, sow, sx, sl⟩ b.now V
            have HC : Hid (∀ V, Fr wb V (fun _ => False) → V.cell? ⟨N, 0, none⟩ = some (.int .i64 sk) ∧ V.cell? ⟨N, 1, none⟩ = some (.int .i64 sow) ∧ V.cell? ⟨N, 2, none⟩ = some (.int .i64 sx) ∧ V.cell? ⟨N, 3, none⟩ = some (.bool sl)) := fun V hf => (HBx.out.step hf).cells
            obtain ⟨x0, x1, x2, x3⟩ := HC.out wb (Fr.refl _ _)
            have HF0 := hid (Fr.refl wb (fun _ => False))
            have HEq : Hid (∃ e, e = ofE ⟨sk, sow, sx, sl⟩ b.now) := ⟨_, rfl⟩
            obtain ⟨e, he⟩ := HEq.out
            rw [← he] at HEf HOf
            have HE := hid he
            clear he HEq
            go_cut [12] from 62 to 65 (fun s wx => s = .int .i64 e ∧ Hid (Fr wb wx (fun _ => False)))
            case first =>
              go_region_held3 (fun V => Hid (Fr wb V (fun _ => False)) ∧ V.cell? ⟨N, 0, none⟩ = some (.int .i64 sk) ∧ V.cell? ⟨N, 1, none⟩ = some (.int .i64 sow) ∧ V.cell? ⟨N, 2, none⟩ = some (.int .i64 sx) ∧ V.cell? ⟨N, 3, none⟩ = some (.bool sl))
                ((refine (fun h => ⟨h, HC.out _ h⟩ : Fr wb _ (fun _ => False) → _) ?_; repeat (first | with_reducible exact HF0.out | with_reducible exact Fr.refl _ _ | with_reducible apply Fr.drew | with_reducible apply Fr.alloc)))
                ((first
                  | (go_at_call 21; refine (HNo.out _ (by repeat (first | with_reducible exact HF0.out | with_reducible exact Fr.refl _ _ | with_reducible apply Fr.drew | with_reducible apply Fr.alloc))).mono ?_; rintro x1 w1 ⟨rfl, hf⟩; have HF0 := hid (Fr.trans (a := wb) (by repeat (first | with_reducible exact HF0.out | with_reducible exact Fr.refl _ _ | with_reducible apply Fr.drew | with_reducible apply Fr.alloc)) hf); clear hf)
                  | (go_at_call 24; refine (HOf.out _).mono ?_; rintro x1 w1 ⟨rfl, hf⟩; have HF0 := hid (Fr.trans (a := wb) (by repeat (first | with_reducible exact HF0.out | with_reducible exact Fr.refl _ _ | with_reducible apply Fr.drew | with_reducible apply Fr.alloc)) hf); clear hf)))
              all_goals (go_wp2_with fail)
              all_goals go_meet
              all_goals exact ⟨rfl, HF0.out⟩
            case rest =>
              obtain ⟨rfl, HX⟩ := hcut
              have HSx := hid (HSx.out.step HX.out)
              have HBx := hid (HBx.out.step HX.out)
              clear x0 x1 x2 x3 HNo HOf HC HF0 HX
              go_wp2_with fail
              refine (HSx.out.ask (fun m hb => now_any hb)).mono ?_
              rintro e2 y1 ⟨rfl, hf⟩
              have HSx := hid (HSx.out.step hf)
              have HBx := hid (HBx.out.step hf)
              clear hf
              obtain ⟨x0, x1, x2, x3⟩ := HBx.out.cells
              dsimp only at x0 x1 x2 x3
              have xb := HBx.out.lt
              by_cases hmy : may sow = true
              · obtain ⟨o, rfl, ho⟩ : ∃ o : Nat, sow = (o : Int) ∧ Ow o := by
                  have := may_true hmy
                  exact ⟨sow.toNat, by omega, by unfold Ow; omega⟩
                have HOw := hid ho
                have l71 : (Instr.lookup 48 (.map (some M)) (.int .i64 (o : Int)) false).run Try.prog y1 = .ok (.map (some (sM o))) y1 := by
                  have := HSx.out.mm.look (e := (o : Int)) (WalkArith.wf_i64 (by have := HOw.out; omega))
                  rw [fS_in HOw.out] at this
                  exact this
                have HMy := hid hmy
                clear hmy ho
                go_wp2_with fail
                go_loopg [15, 16] 64 (fun g s15 s16 wx => ∃ k : Nat, s15 = .bool (anyB b e k) ∧ s16 = .int .i64 ((k : Int) + 1) ∧ k + g = 64 ∧ wx = y1)
                case atStart => exact ⟨0, rfl, rfl, by omega, rfl⟩
                case round =>
                  obtain ⟨k, rfl, rfl, hgk, hw⟩ := hrel
                  subst hw
                  cases gk with
                  | succ g2 =>
                    have t5 : (k : Int) + 1 ≤ 64 := by omega
                    have HOk : Hid (Ow (k + 1)) := ⟨by omega, by omega⟩
                    have l80 : (Instr.lookup 48 (.map (some M)) (.int .i64 ((k : Int) + 1)) false).run Try.prog wr = .ok (.map (some (sM (k + 1)))) wr := by
                      have := HSx.out.mm.look (e := (k : Int) + 1) (WalkArith.wf_i64 (by omega))
                      rw [fS_in' HOk.out] at this
                      exact this
                    have l82 := (HSx.out.mb HOk.out).look (fits_wf HEf.out)
                    have hsu := anyB_succ b e k
                    generalize hasB (b.sets (k + 1)) e = hh at *
                    have HGk := hid hgk
                    have HSu := hid hsu
                    clear hgk hsu
                    rcases hany : anyB b e k with _ | _
                    all_goals
                      rw [hany] at HSu
                      go_wp2_with fail
                      go_roundg g2
                      case rel => exact ⟨k + 1, by rw [HSu.out]; simp, by simp, by have := HGk.out; omega, rfl⟩
                      case measure => omega
                  | zero =>
                    obtain rfl : k = 64 := by omega
                    clear hgk
                    rw [anyB_all HRp.out.s0 e]
                    go_wp2_with fail
                    refine (HSx.out.run (fun m hb => do_any hb ⟨sk, (o : Int), sx, sl⟩ HFit.out)).mono ?_
                    rintro e3 y3 ⟨rfl, hl, hk⟩
                    have HSx := hid hl
                    have HBx := hid (HBx.out.kb hk)
                    clear hl hk x0 x1 x2 x3 xb l71
                    obtain ⟨x0, x1, x2, x3⟩ := HBx.out.cells
                    dsimp only at x0 x1 x2 x3
                    have xb := HBx.out.lt
                    clear x2 x3
                    have hne1 := neM_some
                    have hne2 := neM_none
                    by_cases k1 : sk = 1
                    · subst k1
                      as_aux_lemma =>
                        have hlen : ∀ ty, (Builtin.len_ #[49] ty #[.map (some (sM o))]).run Try.prog y3 = .ok (.int .i64 ((b.sets o).length : Int)) y3 := fun ty => (HSx.out.mb HOw.out).len ty
                        have HFw : Hid ((b.sets o).length ≤ 64) := by have := HWf.out.few o (by have := HOw.out; omega); have := HWf.out.pins; show (b.sets o).length ≤ 64; omega
                        by_cases hp : ((b.sets o).length : Int) < pins
                        · have hre := (set_seal (b := b) (s := ⟨1, (o : Int), sx, sl⟩) (by have := HNw.out; omega) HMy.out rfl : _ ∧ _).1 (by rw [HRp.out.pins]; exact hp)
                          have HEf2 := hid hre.2
                          rw [hre.1]
                          clear hre
                          have HRi : Hid (Ri (b.sets o)) := HWf.out.ri o
                          go_wp2_with (at_mapUpdate; go_must (refine wpl_mb rfl _ _ _ rfl (sM o) (b.sets o) (b.now) rfl rfl rfl (HSx.out.mb HOw.out) HRi.out (by have := HFw.out; unfold maxLen; omega) (by have := HNw.out; unfold fits; omega) ?_))
                          intro y4 hm4 hg4
                          obtain ⟨hs4, hk4⟩ := HSx.out.put HOw.out hm4 hg4
                          have HSx := hid hs4
                          clear hm4 hg4 hs4 hk4 x0 x1 xb
                          go_wp2_with fail
                          go_roundg g
                          case rel => exact ⟨i + 1, _, by simp, by have := HG.out; omega, HRp.out.goes (o := o) (l2 := _) (v2 := b.inn o) HSx.out (by have := HN.out; omega) (by have := HN.out; omega) HEf2.out HOw.out (fun j _ => rfl) (fun j _ => (upd_id _ _ _).symm)⟩
                          case measure => omega
                        · have hre := (set_seal (b := b) (s := ⟨1, (o : Int), sx, sl⟩) (by have := HNw.out; omega) HMy.out rfl : _ ∧ _).2 (by rw [HRp.out.pins]; exact hp)
                          rw [hre.1]
                          rw [hre.2] at HSx
                          clear hre
                          go_wp2_with fail
                          go_roundg g
                          case rel => exact ⟨i + 1, b, by simp, by have := HG.out; omega, HRp.out.stays HSx.out (by have := HN.out; omega) (by have := HN.out; omega)⟩
                          case measure => omega
                    · skip
                      by_cases k2 : sk = 2
                      · subst k2
                        as_aux_lemma =>
                          have linn : (Instr.lookup 42 (.map (some J)) (.int .i64 (o : Int)) false).run Try.prog y3 = .ok (.int .i64 (b.inn o)) y3 := by
                            have := HSx.out.mi.look (e := (o : Int)) (WalkArith.wf_i64 (by have := HOw.out; omega))
                            rw [fJ_in HOw.out] at this
                            exact this
                          have HFi : Hid (fits (b.inn o)) := by have := HWf.out.inn o; have := HNw.out; show fits _; unfold fits; omega
                          by_cases hp : b.inn o = 0
                          · have hre := (set_inner (b := b) (s := ⟨2, (o : Int), sx, sl⟩) (by have := HNw.out; omega) HMy.out rfl).1 hp
                            have HEf2 := hid hre.2
                            rw [hre.1]
                            clear hre
                            rw [hp] at linn
                            go_wp2_with (at_mapUpdate; go_must (refine wpl_mi rfl _ _ _ rfl J n' (fJ b.inn) (o : Int) (b.now) rfl rfl rfl HSx.out.mi (by have := HN.out; have := HI.out; unfold maxLen; omega) (by have := HOw.out; unfold fits; omega) (by have := HNw.out; unfold fits; omega) ?_))
                            intro y4 hm4 hg4
                            obtain ⟨hs4, hk4⟩ := HSx.out.putJ (hm4.eq (fJ_upd HOw.out _)) hg4
                            have HSx := hid hs4
                            clear hm4 hg4 hs4 hk4 x0 x1 xb
                            go_wp2_with fail
                            go_roundg g
                            case rel => exact ⟨i + 1, _, by simp, by have := HG.out; omega, HRp.out.goes (o := o) (l2 := b.sets o) (v2 := _) HSx.out (by have := HN.out; omega) (by have := HN.out; omega) HEf2.out HOw.out (fun j _ => (upd_id _ _ _).symm) (fun j _ => rfl)⟩
                            case measure => omega
                          · have hre := (set_inner (b := b) (s := ⟨2, (o : Int), sx, sl⟩) (by have := HNw.out; omega) HMy.out rfl).2 hp
                            rw [hre.1]
                            rw [hre.2] at HSx
                            clear hre
                            have hp1 : (b.inn o == 0) = false := by simp [hp]
                            have hp2 : decide (b.inn o = 0) = false := by simp [hp]
                            go_wp2_with fail
                            go_roundg g
                            case rel => exact ⟨i + 1, b, by simp, by have := HG.out; omega, HRp.out.stays HSx.out (by have := HN.out; omega) (by have := HN.out; omega)⟩
                            case measure => omega
                      · skip
                        by_cases k3 : sk = 3
                        · subst k3
                          as_aux_lemma =>
                            have hlen : ∀ ty, (Builtin.len_ #[49] ty #[.map (some (sM o))]).run Try.prog y3 = .ok (.int .i64 ((b.sets o).length : Int)) y3 := fun ty => (HSx.out.mb HOw.out).len ty
                            have HFw : Hid ((b.sets o).length ≤ 64) := by have := HWf.out.few o (by have := HOw.out; omega); have := HWf.out.pins; show (b.sets o).length ≤ 64; omega
                            have lown := (HSx.out.mb HOw.out).look (fits_wf HEf.out)
                            have HE3 := hid (show ofE ⟨3, (o : Int), sx, sl⟩ b.now = e from HE.out.symm)
                            rcases hso : some' b e with _ | _
                            · have hre := (set_join (b := b) (s := ⟨3, (o : Int), sx, sl⟩) HMy.out rfl).2 (Or.inl (by rw [HE3.out]; exact hso))
                              rw [hre.1]
                              rw [hre.2] at HSx
                              clear hre
                              go_wp2_with fail
                              go_roundg g
                              case rel => exact ⟨i + 1, b, by simp, by have := HG.out; omega, HRp.out.stays HSx.out (by have := HN.out; omega) (by have := HN.out; omega)⟩
                              case measure => omega
                            · rcases hh : hasB (b.sets o) e with _ | _
                              · rw [hh] at lown
                                by_cases hp : ((b.sets o).length : Int) < pins
                                · have hre := (set_join (b := b) (s := ⟨3, (o : Int), sx, sl⟩) HMy.out rfl).1 (by rw [HE3.out]; exact hso) (Or.inr (by rw [HRp.out.pins]; exact hp))
                                  have HEf2 := hid hre.2
                                  rw [hre.1]
                                  clear hre
                                  rw [HE3.out] at HEf2
                                  have HRi : Hid (Ri (b.sets o)) := HWf.out.ri o
                                  go_wp2_with (at_mapUpdate; go_must (refine wpl_mb rfl _ _ _ rfl (sM o) (b.sets o) (e) rfl rfl rfl (HSx.out.mb HOw.out) HRi.out (by have := HFw.out; unfold maxLen; omega) (HEf.out) ?_))
                                  intro y4 hm4 hg4
                                  obtain ⟨hs4, hk4⟩ := HSx.out.put HOw.out hm4 hg4
                                  have HSx := hid hs4
                                  clear hm4 hg4 hs4 hk4 x0 x1 xb
                                  go_wp2_with fail
                                  go_roundg g
                                  case rel => exact ⟨i + 1, _, by simp, by have := HG.out; omega, HRp.out.goes (o := o) (l2 := _) (v2 := b.inn o) HSx.out (by have := HN.out; omega) (by have := HN.out; omega) HEf2.out HOw.out (fun j _ => rfl) (fun j _ => (upd_id _ _ _).symm)⟩
                                  case measure => omega
                                · have hre := (set_join (b := b) (s := ⟨3, (o : Int), sx, sl⟩) HMy.out rfl).2 (Or.inr ⟨by rw [HE3.out]; exact hh, by rw [HRp.out.pins]; exact hp⟩)
                                  rw [hre.1]
                                  rw [hre.2] at HSx
                                  clear hre
                                  go_wp2_with fail
                                  go_roundg g
                                  case rel => exact ⟨i + 1, b, by simp, by have := HG.out; omega, HRp.out.stays HSx.out (by have := HN.out; omega) (by have := HN.out; omega)⟩
                                  case measure => omega
                              · rw [hh] at lown
                                have hre := (set_join (b := b) (s := ⟨3, (o : Int), sx, sl⟩) HMy.out rfl).1 (by rw [HE3.out]; exact hso) (Or.inl (by rw [HE3.out]; exact hh))
                                have HEf2 := hid hre.2
                                rw [hre.1]
                                clear hre
                                rw [HE3.out] at HEf2
                                have HRi : Hid (Ri (b.sets o)) := HWf.out.ri o
                                go_wp2_with (at_mapUpdate; go_must (refine wpl_mb rfl _ _ _ rfl (sM o) (b.sets o) (e) rfl rfl rfl (HSx.out.mb HOw.out) HRi.out (by have := HFw.out; unfold maxLen; omega) (HEf.out) ?_))
                                intro y4 hm4 hg4
                                obtain ⟨hs4, hk4⟩ := HSx.out.put HOw.out hm4 hg4
                                have HSx := hid hs4
                                clear hm4 hg4 hs4 hk4 x0 x1 xb
                                go_wp2_with fail
                                go_roundg g
                                case rel => exact ⟨i + 1, _, by simp, by have := HG.out; omega, HRp.out.goes (o := o) (l2 := _) (v2 := b.inn o) HSx.out (by have := HN.out; omega) (by have := HN.out; omega) HEf2.out HOw.out (fun j _ => rfl) (fun j _ => (upd_id _ _ _).symm)⟩
                                case measure => omega
                        · skip
                          by_cases k4 : sk = 4
                          · subst k4
                            as_aux_lemma =>
                              have lown := (HSx.out.mb HOw.out).look (fits_wf HEf.out)
                              have HE3 := hid (show ofE ⟨4, (o : Int), sx, sl⟩ b.now = e from HE.out.symm)
                              rcases hh : hasB (b.sets o) e with _ | _
                              · rw [hh] at lown
                                have hre := (set_release (b := b) (s := ⟨4, (o : Int), sx, sl⟩) HMy.out rfl).2 (by rw [HE3.out]; exact hh)
                                rw [hre.1]
                                rw [hre.2] at HSx
                                clear hre
                                go_wp2_with fail
                                go_roundg g
                                case rel => exact ⟨i + 1, b, by simp, by have := HG.out; omega, HRp.out.stays HSx.out (by have := HN.out; omega) (by have := HN.out; omega)⟩
                                case measure => omega
                              · rw [hh] at lown
                                have hre := (set_release (b := b) (s := ⟨4, (o : Int), sx, sl⟩) HMy.out rfl).1 (by rw [HE3.out]; exact hh)
                                have HEf2 := hid hre.2
                                rw [hre.1]
                                clear hre
                                rw [HE3.out] at HEf2
                                obtain ⟨y4, hdel, hm4, hg4⟩ := (HSx.out.mb HOw.out).drop (HWf.out.ri o) (fits_wf HEf.out) 0
                                obtain ⟨hs4, hk4⟩ := HSx.out.put HOw.out hm4 hg4
                                have HSx := hid hs4
                                clear hm4 hg4 hs4 hk4
                                go_wp2_with fail
                                go_roundg g
                                case rel => exact ⟨i + 1, _, by simp, by have := HG.out; omega, HRp.out.goes (o := o) (l2 := _) (v2 := b.inn o) HSx.out (by have := HN.out; omega) (by have := HN.out; omega) HEf2.out HOw.out (fun j _ => rfl) (fun j _ => (upd_id _ _ _).symm)⟩
                                case measure => omega
                          · skip
                            by_cases k5 : sk = 5
                            · subst k5
                              as_aux_lemma =>
                                have linn : (Instr.lookup 42 (.map (some J)) (.int .i64 (o : Int)) false).run Try.prog y3 = .ok (.int .i64 (b.inn o)) y3 := by
                                  have := HSx.out.mi.look (e := (o : Int)) (WalkArith.wf_i64 (by have := HOw.out; omega))
                                  rw [fJ_in HOw.out] at this
                                  exact this
                                have HFi : Hid (fits (b.inn o)) := by have := HWf.out.inn o; have := HNw.out; show fits _; unfold fits; omega
                                by_cases hp : b.inn o = 0
                                · have hre := (set_done (b := b) (s := ⟨5, (o : Int), sx, sl⟩) HMy.out rfl).2 hp
                                  rw [hre.1]
                                  rw [hre.2] at HSx
                                  clear hre
                                  rw [hp] at linn
                                  go_wp2_with fail
                                  go_roundg g
                                  case rel => exact ⟨i + 1, b, by simp, by have := HG.out; omega, HRp.out.stays HSx.out (by have := HN.out; omega) (by have := HN.out; omega)⟩
                                  case measure => omega
                                · have hre := (set_done (b := b) (s := ⟨5, (o : Int), sx, sl⟩) HMy.out rfl).1 hp
                                  have HEf2 := hid hre.2
                                  rw [hre.1]
                                  clear hre
                                  have hp1 : (b.inn o == 0) = false := by simp [hp]
                                  have hp2 : decide (b.inn o = 0) = false := by simp [hp]
                                  have hp3 : (b.inn o != 0) = true := by simp [hp]
                                  go_wp2_with (at_mapUpdate; go_must (refine wpl_mi rfl _ _ _ rfl J n' (fJ b.inn) (o : Int) (0) rfl rfl rfl HSx.out.mi (by have := HN.out; have := HI.out; unfold maxLen; omega) (by have := HOw.out; unfold fits; omega) (by unfold fits; omega) ?_))
                                  intro y4 hm4 hg4
                                  obtain ⟨hs4, hk4⟩ := HSx.out.putJ (hm4.eq (fJ_upd HOw.out _)) hg4
                                  have HSx := hid hs4
                                  clear hm4 hg4 hs4 hk4 x0 x1 xb
                                  go_wp2_with fail
                                  go_roundg g
                                  case rel => exact ⟨i + 1, _, by simp, by have := HG.out; omega, HRp.out.goes (o := o) (l2 := b.sets o) (v2 := _) HSx.out (by have := HN.out; omega) (by have := HN.out; omega) HEf2.out HOw.out (fun j _ => (upd_id _ _ _).symm) (fun j _ => rfl)⟩
                                  case measure => omega
                            · skip
                              by_cases k6 : sk = 6
                              · subst k6
                                as_aux_lemma =>
                                  have hlen : ∀ ty, (Builtin.len_ #[49] ty #[.map (some (sM o))]).run Try.prog y3 = .ok (.int .i64 ((b.sets o).length : Int)) y3 := fun ty => (HSx.out.mb HOw.out).len ty
                                  have HFw : Hid ((b.sets o).length ≤ 64) := by have := HWf.out.few o (by have := HOw.out; omega); have := HWf.out.pins; show (b.sets o).length ≤ 64; omega
                                  have linn : (Instr.lookup 42 (.map (some J)) (.int .i64 (o : Int)) false).run Try.prog y3 = .ok (.int .i64 (b.inn o)) y3 := by
                                    have := HSx.out.mi.look (e := (o : Int)) (WalkArith.wf_i64 (by have := HOw.out; omega))
                                    rw [fJ_in HOw.out] at this
                                    exact this
                                  have HFi : Hid (fits (b.inn o)) := by have := HWf.out.inn o; have := HNw.out; show fits _; unfold fits; omega
                                  have HL6 : Hid True := trivial
                                  have hmm := @run_makeMap Try.prog
                                  by_cases hp : (b.sets o).length = 0
                                  · have hp0 : ¬ (0 : Int) < ((b.sets o).length : Int) := by omega
                                    by_cases hq : b.inn o = 0
                                    · rw [hq] at linn
                                      have HEf2 := hid (set_drop (b := b) (s := ⟨6, (o : Int), sx, sl⟩) HMy.out rfl).2
                                      have hre := (set_drop (b := b) (s := ⟨6, (o : Int), sx, sl⟩) HMy.out rfl).1
                                      rw [show decide (0 < (b.sets (Stp.o ⟨6, (o : Int), sx, sl⟩).toNat).length ∨ ¬ b.inn (Stp.o ⟨6, (o : Int), sx, sl⟩).toNat = 0) = false from decide_eq_false (by show ¬ (0 < (b.sets o).length ∨ ¬ b.inn o = 0); omega)] at hre
                                      rw [hre]
                                      clear hre
                                      go_wp2_with (at_mapUpdate; go_must (refine wpl_mm rfl _ _ _ rfl M n (fS sM) (o : Int) (some y3.heap.size) rfl rfl rfl (HSx.out.mm.fr (alloc_fr _ _ (fun _ => False)) (fun h => h)) (by have := HN.out; have := HI.out; unfold maxLen; omega) (by have := HOw.out; unfold fits; omega) ?_))
                                      intro y4 hm4 hg4
                                      obtain ⟨hs4, hk4⟩ := HSx.out.make HOw.out rfl (hm4.eq (fS_upd HOw.out _)) hg4
                                      have HSx := hid hs4
                                      have HBx := hid (HBx.out.kb hk4)
                                      clear hm4 hg4 hs4 hk4 x0 x1 xb hlen HL6 linn
                                      obtain ⟨x0, x1, x2, x3⟩ := HBx.out.cells
                                      dsimp only at x0 x1 x2 x3
                                      have xb := HBx.out.lt
                                      clear x2 x3
                                      go_wp2_with (at_mapUpdate; go_must (refine wpl_mi rfl _ _ _ rfl J n' (fJ b.inn) (o : Int) 0 rfl rfl rfl HSx.out.mi (by have := HN.out; have := HI.out; unfold maxLen; omega) (by have := HOw.out; unfold fits; omega) (by unfold fits; omega) ?_))
                                      intro y5 hm5 hg5
                                      obtain ⟨hs5, hk5⟩ := HSx.out.putJ (hm5.eq (fJ_upd HOw.out _)) hg5
                                      have HSx := hid hs5
                                      clear hm5 hg5 hs5 hk5 x0 x1 xb
                                      go_wp2_with fail
                                      go_roundg g
                                      case rel => exact ⟨i + 1, _, by simp, by have := HG.out; omega, HRp.out.goes (o := o) (l2 := _) (v2 := _) HSx.out (by have := HN.out; omega) (by have := HN.out; omega) HEf2.out HOw.out (fun j _ => rfl) (fun j _ => rfl)⟩
                                      case measure => omega
                                    · have hp1 : (b.inn o == 0) = false := by simp [hq]
                                      have hp2 : decide (b.inn o = 0) = false := by simp [hq]
                                      have hp3 : (b.inn o != 0) = true := by simp [hq]
                                      have HEf2 := hid (set_drop (b := b) (s := ⟨6, (o : Int), sx, sl⟩) HMy.out rfl).2
                                      have hre := (set_drop (b := b) (s := ⟨6, (o : Int), sx, sl⟩) HMy.out rfl).1
                                      rw [show decide (0 < (b.sets (Stp.o ⟨6, (o : Int), sx, sl⟩).toNat).length ∨ ¬ b.inn (Stp.o ⟨6, (o : Int), sx, sl⟩).toNat = 0) = true from decide_eq_true (by show 0 < (b.sets o).length ∨ ¬ b.inn o = 0; exact Or.inr hq)] at hre
                                      rw [hre]
                                      clear hre
                                      go_wp2_with (at_mapUpdate; go_must (refine wpl_mm rfl _ _ _ rfl M n (fS sM) (o : Int) (some y3.heap.size) rfl rfl rfl (HSx.out.mm.fr (alloc_fr _ _ (fun _ => False)) (fun h => h)) (by have := HN.out; have := HI.out; unfold maxLen; omega) (by have := HOw.out; unfold fits; omega) ?_))
                                      intro y4 hm4 hg4
                                      obtain ⟨hs4, hk4⟩ := HSx.out.make HOw.out rfl (hm4.eq (fS_upd HOw.out _)) hg4
                                      have HSx := hid hs4
                                      have HBx := hid (HBx.out.kb hk4)
                                      clear hm4 hg4 hs4 hk4 x0 x1 xb hlen HL6 linn
                                      obtain ⟨x0, x1, x2, x3⟩ := HBx.out.cells
                                      dsimp only at x0 x1 x2 x3
                                      have xb := HBx.out.lt
                                      clear x2 x3
                                      go_wp2_with (at_mapUpdate; go_must (refine wpl_mi rfl _ _ _ rfl J n' (fJ b.inn) (o : Int) 0 rfl rfl rfl HSx.out.mi (by have := HN.out; have := HI.out; unfold maxLen; omega) (by have := HOw.out; unfold fits; omega) (by unfold fits; omega) ?_))
                                      intro y5 hm5 hg5
                                      obtain ⟨hs5, hk5⟩ := HSx.out.putJ (hm5.eq (fJ_upd HOw.out _)) hg5
                                      have HSx := hid hs5
                                      clear hm5 hg5 hs5 hk5 x0 x1 xb
                                      go_wp2_with fail
                                      go_roundg g
                                      case rel => exact ⟨i + 1, _, by simp, by have := HG.out; omega, HRp.out.goes (o := o) (l2 := _) (v2 := _) HSx.out (by have := HN.out; omega) (by have := HN.out; omega) HEf2.out HOw.out (fun j _ => rfl) (fun j _ => rfl)⟩
                                      case measure => omega
                                  · have hp0 : (0 : Int) < ((b.sets o).length : Int) := by omega
                                    have HEf2 := hid (set_drop (b := b) (s := ⟨6, (o : Int), sx, sl⟩) HMy.out rfl).2
                                    have hre := (set_drop (b := b) (s := ⟨6, (o : Int), sx, sl⟩) HMy.out rfl).1
                                    rw [show decide (0 < (b.sets (Stp.o ⟨6, (o : Int), sx, sl⟩).toNat).length ∨ ¬ b.inn (Stp.o ⟨6, (o : Int), sx, sl⟩).toNat = 0) = true from decide_eq_true (by show 0 < (b.sets o).length ∨ ¬ b.inn o = 0; exact Or.inl (by omega))] at hre
                                    rw [hre]
                                    clear hre
                                    go_wp2_with (at_mapUpdate; go_must (refine wpl_mm rfl _ _ _ rfl M n (fS sM) (o : Int) (some y3.heap.size) rfl rfl rfl (HSx.out.mm.fr (alloc_fr _ _ (fun _ => False)) (fun h => h)) (by have := HN.out; have := HI.out; unfold maxLen; omega) (by have := HOw.out; unfold fits; omega) ?_))
                                    intro y4 hm4 hg4
                                    obtain ⟨hs4, hk4⟩ := HSx.out.make HOw.out rfl (hm4.eq (fS_upd HOw.out _)) hg4
                                    have HSx := hid hs4
                                    have HBx := hid (HBx.out.kb hk4)
                                    clear hm4 hg4 hs4 hk4 x0 x1 xb hlen HL6 linn
                                    obtain ⟨x0, x1, x2, x3⟩ := HBx.out.cells
                                    dsimp only at x0 x1 x2 x3
                                    have xb := HBx.out.lt
                                    clear x2 x3
                                    go_wp2_with (at_mapUpdate; go_must (refine wpl_mi rfl _ _ _ rfl J n' (fJ b.inn) (o : Int) 0 rfl rfl rfl HSx.out.mi (by have := HN.out; have := HI.out; unfold maxLen; omega) (by have := HOw.out; unfold fits; omega) (by unfold fits; omega) ?_))
                                    intro y5 hm5 hg5
                                    obtain ⟨hs5, hk5⟩ := HSx.out.putJ (hm5.eq (fJ_upd HOw.out _)) hg5
                                    have HSx := hid hs5
                                    clear hm5 hg5 hs5 hk5 x0 x1 xb
                                    go_wp2_with fail
                                    go_roundg g
                                    case rel => exact ⟨i + 1, _, by simp, by have := HG.out; omega, HRp.out.goes (o := o) (l2 := _) (v2 := _) HSx.out (by have := HN.out; omega) (by have := HN.out; omega) HEf2.out HOw.out (fun j _ => rfl) (fun j _ => rfl)⟩
                                    case measure => omega
                              · skip
                                as_aux_lemma =>
                                  have HEf2 := hid (set_rest (b := b) (s := ⟨sk, (o : Int), sx, sl⟩) (by show sk < 1 ∨ 6 < sk; omega) o)
                                  rcases hdo : doR b ⟨sk, (o : Int), sx, sl⟩ with _ | _
                                  all_goals
                                    go_wp2_with fail
                                    go_roundg g
                                    case rel => exact ⟨i + 1, _, by simp, by have := HG.out; omega, HRp.out.goes (o := o) (l2 := b.sets o) (v2 := b.inn o) HSx.out (by have := HN.out; omega) (by have := HN.out; omega) HEf2.out HOw.out (fun j _ => (upd_id _ _ _).symm) (fun j _ => (upd_id _ _ _).symm)⟩
                                    case measure => omega
              · have HMn : Hid (may sow = false) := by show may sow = false; simpa using hmy
                have HOut : Hid (¬ (1 ≤ sow ∧ sow ≤ 64)) := by have := may_false HMn.out; show ¬ _; omega
                have l71 : (Instr.lookup 48 (.map (some M)) (.int .i64 sow) false).run Try.prog y1 = .ok (.map none) y1 := by
                  have := HSx.out.mm.look (fits_wf HFit.out.2.1)
                  rw [fS_out HOut.out] at this
                  exact this
                clear hmy
                go_wp2_with fail
                go_loopg [15, 16] 64 (fun g s15 s16 wx => ∃ k : Nat, s15 = .bool (anyB b e k) ∧ s16 = .int .i64 ((k : Int) + 1) ∧ k + g = 64 ∧ wx = y1)
                case atStart => exact ⟨0, rfl, rfl, by omega, rfl⟩
                case round =>
                  obtain ⟨k, rfl, rfl, hgk, hw⟩ := hrel
                  subst hw
                  cases gk with
                  | succ g2 =>
                    have t5 : (k : Int) + 1 ≤ 64 := by omega
                    have HOk : Hid (Ow (k + 1)) := ⟨by omega, by omega⟩
                    have l80 : (Instr.lookup 48 (.map (some M)) (.int .i64 ((k : Int) + 1)) false).run Try.prog wr = .ok (.map (some (sM (k + 1)))) wr := by
                      have := HSx.out.mm.look (e := (k : Int) + 1) (WalkArith.wf_i64 (by omega))
                      rw [fS_in' HOk.out] at this
                      exact this
                    have l82 := (HSx.out.mb HOk.out).look (fits_wf HEf.out)
                    have hsu := anyB_succ b e k
                    generalize hasB (b.sets (k + 1)) e = hh at *
                    have HGk := hid hgk
                    have HSu := hid hsu
                    clear hgk hsu
                    rcases hany : anyB b e k with _ | _
                    all_goals
                      rw [hany] at HSu
                      go_wp2_with fail
                      go_roundg g2
                      case rel => exact ⟨k + 1, by rw [HSu.out]; simp, by simp, by have := HGk.out; omega, rfl⟩
                      case measure => omega
                  | zero =>
                    obtain rfl : k = 64 := by omega
                    clear hgk
                    rw [anyB_all HRp.out.s0 e]
                    go_wp2_with fail
                    refine (HSx.out.run (fun m hb => do_any hb ⟨sk, sow, sx, sl⟩ HFit.out)).mono ?_
                    rintro e3 y3 ⟨rfl, hl, hk⟩
                    have HSx := hid hl
                    have HBx := hid (HBx.out.kb hk)
                    clear hl hk x0 x1 x2 x3 xb l71
                    obtain ⟨x0, x1, x2, x3⟩ := HBx.out.cells
                    dsimp only at x0 x1 x2 x3
                    have xb := HBx.out.lt
                    clear x2 x3
                    have hne1 := neM_some
                    have hne2 := neM_none
                    by_cases k1 : sk = 1
                    · subst k1
                      as_aux_lemma =>
                        have hre := set_not (b := b) (s := ⟨1, sow, sx, sl⟩) HMn.out (by show (1 : Int) ≤ 1; omega) (by show (1 : Int) ≤ 6; omega)
                        rw [hre.1]
                        rw [hre.2] at HSx
                        clear hre
                        go_wp2_with fail
                        go_roundg g
                        case rel => exact ⟨i + 1, b, by simp, by have := HG.out; omega, HRp.out.stays HSx.out (by have := HN.out; omega) (by have := HN.out; omega)⟩
                        case measure => omega
                    · skip
                      by_cases k2 : sk = 2
                      · subst k2
                        as_aux_lemma =>
                          have hre := set_not (b := b) (s := ⟨2, sow, sx, sl⟩) HMn.out (by show (1 : Int) ≤ 2; omega) (by show (2 : Int) ≤ 6; omega)
                          rw [hre.1]
                          rw [hre.2] at HSx
                          clear hre
                          go_wp2_with fail
                          go_roundg g
                          case rel => exact ⟨i + 1, b, by simp, by have := HG.out; omega, HRp.out.stays HSx.out (by have := HN.out; omega) (by have := HN.out; omega)⟩
                          case measure => omega
                      · skip
                        by_cases k3 : sk = 3
                        · subst k3
                          as_aux_lemma =>
                            have hre := set_not (b := b) (s := ⟨3, sow, sx, sl⟩) HMn.out (by show (1 : Int) ≤ 3; omega) (by show (3 : Int) ≤ 6; omega)
                            rw [hre.1]
                            rw [hre.2] at HSx
                            clear hre
                            go_wp2_with fail
                            go_roundg g
                            case rel => exact ⟨i + 1, b, by simp, by have := HG.out; omega, HRp.out.stays HSx.out (by have := HN.out; omega) (by have := HN.out; omega)⟩
                            case measure => omega
                        · skip
                          by_cases k4 : sk = 4
                          · subst k4
                            as_aux_lemma =>
                              have hre := set_not (b := b) (s := ⟨4, sow, sx, sl⟩) HMn.out (by show (1 : Int) ≤ 4; omega) (by show (4 : Int) ≤ 6; omega)
                              rw [hre.1]
                              rw [hre.2] at HSx
                              clear hre
                              go_wp2_with fail
                              go_roundg g
                              case rel => exact ⟨i + 1, b, by simp, by have := HG.out; omega, HRp.out.stays HSx.out (by have := HN.out; omega) (by have := HN.out; omega)⟩
                              case measure => omega
                          · skip
                            by_cases k5 : sk = 5
                            · subst k5
                              as_aux_lemma =>
                                have hre := set_not (b := b) (s := ⟨5, sow, sx, sl⟩) HMn.out (by show (1 : Int) ≤ 5; omega) (by show (5 : Int) ≤ 6; omega)
                                rw [hre.1]
                                rw [hre.2] at HSx
                                clear hre
                                go_wp2_with fail
                                go_roundg g
                                case rel => exact ⟨i + 1, b, by simp, by have := HG.out; omega, HRp.out.stays HSx.out (by have := HN.out; omega) (by have := HN.out; omega)⟩
                                case measure => omega
                            · skip
                              by_cases k6 : sk = 6
                              · subst k6
                                as_aux_lemma =>
                                  have hre := set_not (b := b) (s := ⟨6, sow, sx, sl⟩) HMn.out (by show (1 : Int) ≤ 6; omega) (by show (6 : Int) ≤ 6; omega)
                                  rw [hre.1]
                                  rw [hre.2] at HSx
                                  clear hre
                                  go_wp2_with fail
                                  go_roundg g
                                  case rel => exact ⟨i + 1, b, by simp, by have := HG.out; omega, HRp.out.stays HSx.out (by have := HN.out; omega) (by have := HN.out; omega)⟩
                                  case measure => omega
                              · skip
                                as_aux_lemma =>
                                  have HEf2 := hid (set_rest (b := b) (s := ⟨sk, sow, sx, sl⟩) (by show sk < 1 ∨ 6 < sk; omega) 1)
                                  rcases hdo : doR b ⟨sk, sow, sx, sl⟩ with _ | _
                                  all_goals
                                    go_wp2_with fail
                                    go_roundg g
                                    case rel => exact ⟨i + 1, _, by simp, by have := HG.out; omega, HRp.out.goes (o := 1) (l2 := b.sets 1) (v2 := b.inn 1) HSx.out (by have := HN.out; omega) (by have := HN.out; omega) HEf2.out ⟨by omega, by omega⟩ (fun j _ => (upd_id _ _ _).symm) (fun j _ => (upd_id _ _ _).symm)⟩
                                    case measure => omega
end Go.Proofs.Ytimefcmemklhpaa.E
