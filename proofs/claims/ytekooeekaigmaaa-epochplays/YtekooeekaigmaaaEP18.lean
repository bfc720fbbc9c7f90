/- EpochPlays: the walk. -/
import Derived.Test.YtekooeekaigmaaaEP17
import Derived.Test.YtekooeekaigmaaaETwin2
namespace Go.Proofs.Ytekooeekaigmaaa.E
open Go.RowKit Go.Maps Go.MuLone

theorem Pm.twin {w W W' : World} {B B' C S I base : Nat} {m : Nat → Option Nat} {b : Bo} (h : Pm w W B C S I base b) (hb : Bk W' 0 B' m b) (hlo : ∀ k, ow B' m k → W.heap.size ≤ k) (hf : Fr W W' (fun _ => False)) : Pm w W' B' C S I base b := by
  obtain ⟨_, ⟨sv, vD, vW, h3⟩, h5, h6, h7⟩ := h
  exact ⟨⟨m, hb, fun k hk => Nat.le_trans h6.size (hlo k hk)⟩, ⟨sv, vD, vW, h3.step hf⟩, h5, h6.trans hf, h7⟩
set_option maxHeartbeats 4000000 in
set_option maxRecDepth 100000 in
theorem plays_walk (w : World) (pins : Int) {v : Value} {ss : List Stp} (hs : Sc w v ss) :
    Calls Try.prog 3 #[.int .i64 pins, v] w fun e w' => e = .returned (.bool true) ∧ Fr w w' (fun _ => False) := by
  obtain ⟨ao, cap, rfl, hsc⟩ := hs
  have HSC := hid hsc
  clear hsc
  by_cases hb : 3000 < ss.length
  · have t1 : (3000 : Int) < (ss.length : Int) := by omega
    go_enter Try.func3, Try.ntmps3
    go_wp2_with fail
    refine (known_any w).mono ?_
    rintro e w1 ⟨rfl, hf1⟩
    have HF := hid hf1
    clear hf1
    go_wp2_with fail
    go_ret
    exact ⟨rfl, HF.out⟩
  have t1 : ¬ (3000 : Int) < (ss.length : Int) := by omega
  have hss : ss.length ≤ 3000 := by omega
  clear hb
  go_enter Try.func3, Try.ntmps3
  go_wp2_with fail
  refine (known_any w).mono ?_
  rintro e w1 ⟨rfl, hf1⟩
  have HF := hid hf1
  clear hf1
  go_wp2_with fail
  by_cases hp : pins < 1 ∨ 64 < pins
  · refine (new_err pins hp _).mono ?_
    rintro e w2 ⟨rfl, rfl⟩
    go_wp2_with fail
    refine (rnew_err pins hp _).mono ?_
    rintro e w3 ⟨rfl, rfl⟩
    go_wp2_with fail
    go_ret
    exact ⟨rfl, HF.out⟩
  · refine (new_any pins (by omega) (by omega) _).mono ?_
    rintro e w2 ⟨B0, rfl, m1, hb1, hlo1, hf2⟩
    have HB1 := hid hb1
    have HLo := hid hlo1
    have HF2 := hid hf2
    clear hb1 hlo1 hf2
    go_wp2_with fail
    refine (rnew_any pins (by omega) (by omega) _).mono ?_
    rintro e w3 ⟨C, rfl, S, I, base, hr, hlo, hf⟩
    have HP0 : Hid (Pm w w3 B0 C S I base (newB pins)) := by
      have e0 : dyingL (newB pins) = [] := by unfold dyingL newB; simp
      refine ⟨⟨m1, HB1.out.step hf, fun k hk => Nat.le_trans HF.out.size (HLo.out k hk)⟩, ⟨_, _, _, by rw [e0]; exact hr⟩, ?_, (HF.out.trans HF2.out).trans hf, Jb.new pins⟩
      have := (HF.out.trans HF2.out).size
      exact ⟨Nat.le_trans this hlo.1, Nat.le_trans this hlo.2.1, Nat.le_trans this hlo.2.2⟩
    clear hr hlo hf HB1 HLo HF2 HF
    go_wp2_with fail
    go_loopg [9, 5] ss.length (fun g s9 s5 wx => ∃ (i B : Nat) (b : Bo), s9 = .int .i64 (i : Int) ∧ s5 = .pointer (some ⟨B, 0, none⟩) ∧ i + g = ss.length ∧ Hid (Pm w wx B C S I base b))
    case atStart => exact ⟨0, B0, newB pins, rfl, rfl, by omega, HP0⟩
    case round =>
      clear HP0
      obtain ⟨i, B, b, rfl, rfl, hg, HP⟩ := hrel
      cases gk with
      | zero =>
        have t4 : ¬ (i : Int) < (ss.length : Int) := by omega
        clear hg
        have HWb : Hid (Wf b) := by obtain ⟨⟨m, h1, _⟩, _⟩ := HP.out; exact h1.wf
        obtain ⟨nn, hnn⟩ : ∃ nn, nn = b.now := ⟨_, rfl⟩
        have hnow : 1 ≤ nn ∧ nn ≤ 1099511627776 := by rw [hnn]; exact HWb.out.now
        have HHd : Hid (∀ V, Pm w V B C S I base b → V.cell? ⟨C, 1, none⟩ = some (.int .i64 nn) ∧ C < V.heap.size) := fun V hp => by
          obtain ⟨_, ⟨sv, vD, vW, h3⟩, _⟩ := hp
          rw [hnn]
          exact ⟨h3.cells.2.1, lt_of_block h3.cell⟩
        clear hnn
        go_wp2_with fail
        go_loopg [10] 68 (fun g s10 wx => ∃ j : Nat, s10 = .int .i64 ((j : Int) - 1) ∧ j + g = 68 ∧ Hid (Pm w wx B C S I base b))
        case atStart => exact ⟨0, rfl, rfl, HP⟩
        case round =>
          clear HP
          obtain ⟨j, rfl, hgj, HP⟩ := hrel
          cases gk with
          | zero =>
            have t5 : ¬ (j : Int) - 1 ≤ 66 := by omega
            clear hgj
            go_wp2_with fail
            go_ret
            exact ⟨rfl, HP.out.2.2.2.1⟩
          | succ g =>
            have t5 : (j : Int) - 1 ≤ 66 := by omega
            have HGj := hid hgj
            clear hgj
            go_wp2_with fail
            go_loopg [11] 7 (fun g s11 wx => ∃ q : Nat, s11 = .int .i64 (q : Int) ∧ q + g = 7 ∧ Hid (Pm w wx B C S I base b))
            case atStart => exact ⟨0, rfl, rfl, HP⟩
            case round =>
              clear HP
              obtain ⟨q, rfl, hgq, HP⟩ := hrel
              cases gk with
              | zero =>
                have t6 : ¬ (q : Int) ≤ 6 := by omega
                clear hgq
                go_wp2_with fail
                go_roundg g
                case rel => exact ⟨j + 1, by first | (simp; done) | (simp; omega), by have := HGj.out; omega, HP⟩
                case measure => omega
              | succ g2 =>
                have t6 : (q : Int) ≤ 6 := by omega
                have HGq := hid hgq
                have hft : fits (nn - (q : Int)) := by unfold fits; omega
                have HA : Hid (∀ V, Pm w V B C S I base b → Calls Try.prog 15 #[.pointer (some ⟨B, 0, none⟩), .int .i64 ((j : Int) - 1), .int .i64 (nn - (q : Int))] V fun x w' => x = .returned (.bool (holdsB b ((j : Int) - 1) (nn - (q : Int)))) ∧ Fr V w' (fun _ => False)) := fun V hp => by
                  obtain ⟨⟨m, h1, _⟩, _⟩ := hp
                  exact holds_any h1 _ _ hft
                have HBb : Hid (∀ V, Pm w V B C S I base b → Calls Try.prog 16 #[.pointer (some ⟨C, 0, none⟩), .int .i64 ((j : Int) - 1), .int .i64 (nn - (q : Int))] V fun x w' => x = .returned (.bool (holdsB b ((j : Int) - 1) (nn - (q : Int)))) ∧ Fr V w' (fun _ => False)) := fun V hp => by
                  obtain ⟨_, ⟨sv, vD, vW, h3⟩, _⟩ := hp
                  exact rholds_any h3 _ _
                have hwr : IntKind.i64.wrap (nn - (q : Int)) = nn - (q : Int) := wrapI (by omega) (by omega)
                have HA2 : Hid (∀ V, Pm w V B C S I base b → Calls Try.prog 15 #[.pointer (some ⟨B, 0, none⟩), .int .i64 ((j : Int) - 1), .int .i64 (IntKind.i64.wrap (nn - (q : Int)))] V fun x w' => x = .returned (.bool (holdsB b ((j : Int) - 1) (nn - (q : Int)))) ∧ Fr V w' (fun _ => False)) := fun V hp => by rw [hwr]; exact HA.out V hp
                have HB2 : Hid (∀ V, Pm w V B C S I base b → Calls Try.prog 16 #[.pointer (some ⟨C, 0, none⟩), .int .i64 ((j : Int) - 1), .int .i64 (IntKind.i64.wrap (nn - (q : Int)))] V fun x w' => x = .returned (.bool (holdsB b ((j : Int) - 1) (nn - (q : Int)))) ∧ Fr V w' (fun _ => False)) := fun V hp => by rw [hwr]; exact HBb.out V hp
                clear hgq hft hwr
                generalize holdsB b ((j : Int) - 1) (nn - (q : Int)) = RR at *
                go_wp2_with fail
                cases RR
                all_goals (go_region_held3 (fun V => V.cell? ⟨C, 1, none⟩ = some (.int .i64 nn) ∧ C < V.heap.size)
                  ((refine HHd.out _ ?_; first | with_reducible exact HP.out | with_reducible exact Pm.drew HP.out | with_reducible exact Pm.drew (Pm.drew HP.out)))
                  ((first
                    | (go_at_call 15; with_reducible refine (HA.out _ (by first | with_reducible exact HP.out | with_reducible exact Pm.drew HP.out | with_reducible exact Pm.drew (Pm.drew HP.out))).mono ?_; rintro xe w10 ⟨rfl, hf⟩; have HP := hid (Pm.step (by first | with_reducible exact HP.out | with_reducible exact Pm.drew HP.out | with_reducible exact Pm.drew (Pm.drew HP.out)) hf); clear hf)
                    | (go_at_call 15; with_reducible refine (HA2.out _ (by first | with_reducible exact HP.out | with_reducible exact Pm.drew HP.out | with_reducible exact Pm.drew (Pm.drew HP.out))).mono ?_; rintro xe w10 ⟨rfl, hf⟩; have HP := hid (Pm.step (by first | with_reducible exact HP.out | with_reducible exact Pm.drew HP.out | with_reducible exact Pm.drew (Pm.drew HP.out)) hf); clear hf)
                    | (go_at_call 16; with_reducible refine (HBb.out _ (by first | with_reducible exact HP.out | with_reducible exact Pm.drew HP.out | with_reducible exact Pm.drew (Pm.drew HP.out))).mono ?_; rintro xe w11 ⟨rfl, hf⟩; have HP := hid (Pm.step (by first | with_reducible exact HP.out | with_reducible exact Pm.drew HP.out | with_reducible exact Pm.drew (Pm.drew HP.out)) hf); clear hf)
                    | (go_at_call 16; with_reducible refine (HB2.out _ (by first | with_reducible exact HP.out | with_reducible exact Pm.drew HP.out | with_reducible exact Pm.drew (Pm.drew HP.out))).mono ?_; rintro xe w11 ⟨rfl, hf⟩; have HP := hid (Pm.step (by first | with_reducible exact HP.out | with_reducible exact Pm.drew HP.out | with_reducible exact Pm.drew (Pm.drew HP.out)) hf); clear hf))))
                all_goals (go_wp2_with fail)
                all_goals go_roundg g2
                all_goals first
                  | omega
                  | exact ⟨q + 1, by simp, by have := HGq.out; omega, HP⟩
      | succ g =>
        have hi : i < ss.length := by omega
        have t4 : (i : Int) < (ss.length : Int) := by omega
        obtain ⟨sb, so, rfl, hst⟩ := HSC.out (by rintro rfl; simp at hi)
        have HST := hid (hst i hi)
        have HFit := hid (hst i hi).2.2.2.2
        generalize ss.getD i st0 = s at *
        obtain ⟨sk, sow, sx, sl⟩ := s
        have HCs : Hid (∀ V, Fr w V (fun _ => False) → V.cell? ⟨sb, so + i * 4, none⟩ = some (.int .i64 sk) ∧ V.cell? ⟨sb, so + i * 4 + 1, none⟩ = some (.int .i64 sow) ∧ V.cell? ⟨sb, so + i * 4 + 2, none⟩ = some (.int .i64 sx) ∧ V.cell? ⟨sb, so + i * 4 + 3, none⟩ = some (.bool sl) ∧ sb < V.heap.size) := fun V hf => by
          obtain ⟨q0, q1, q2, q3, _⟩ := HST.out
          have hbw := hf.below (Nat.le_refl _) (fun _ h => h.elim)
          have qb := World.block_lt_of_cell? w _ q0
          have r0 := (hbw.cell (p := ⟨sb, so + i * 4, none⟩) qb).trans q0
          exact ⟨r0, (hbw.cell (p := ⟨sb, so + i * 4 + 1, none⟩) qb).trans q1, (hbw.cell (p := ⟨sb, so + i * 4 + 2, none⟩) qb).trans q2, (hbw.cell (p := ⟨sb, so + i * 4 + 3, none⟩) qb).trans q3, World.block_lt_of_cell? V _ r0⟩
        obtain ⟨q0, q1, q2, q3, qb⟩ := HCs.out _ HP.out.2.2.2.1
        have HG := hid hg
        clear hg hst hi HST
        by_cases k9 : sk = 9
        · subst k9
          go_wp2_with fail
          refine (show Calls _ _ _ _ _ from (by obtain ⟨⟨m, h1, _⟩, _⟩ := HP.out; exact twinM_any h1)).mono ?_
          rintro e w4 ⟨B2, rfl, m', hb2, hlo2, hf⟩
          have HP := hid (HP.out.twin hb2 hlo2 hf)
          clear hb2 hlo2 hf q0 q1 q2 q3 qb
          obtain ⟨q0, q1, q2, q3, qb⟩ := HCs.out _ HP.out.2.2.2.1
          go_wp2_with fail
          refine (told_any HP.out ⟨9, sow, sx, sl⟩ HFit.out).mono ?_
          rintro e w5 ⟨rfl, hp⟩
          have HP := hid hp
          clear hp q0 q1 q2 q3 qb
          go_wp2_with fail
          refine (like_any HP.out).mono ?_
          rintro e w6 ⟨rfl, hf⟩
          have HP := hid (HP.out.step hf)
          clear hf
          go_wp2_with fail
          go_roundg g
          case rel => exact ⟨i + 1, B2, _, by simp, rfl, by have := HG.out; omega, HP⟩
          case measure => omega
        · have n9 : (sk == 9) = false := by simp [k9]
          go_wp2_with fail
          refine (told_any HP.out ⟨sk, sow, sx, sl⟩ HFit.out).mono ?_
          rintro e w5 ⟨rfl, hp⟩
          have HP := hid hp
          clear hp q0 q1 q2 q3 qb
          go_wp2_with fail
          refine (like_any HP.out).mono ?_
          rintro e w6 ⟨rfl, hf⟩
          have HP := hid (HP.out.step hf)
          clear hf
          go_wp2_with fail
          go_roundg g
          case rel => exact ⟨i + 1, B, _, by simp, rfl, by have := HG.out; omega, HP⟩
          case measure => omega
end Go.Proofs.Ytekooeekaigmaaa.E
