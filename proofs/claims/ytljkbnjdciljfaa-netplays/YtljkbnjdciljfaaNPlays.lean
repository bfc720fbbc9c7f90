/- NetPlays: the walk. -/
import Derived.Test.YtljkbnjdciljfaaNAsk
namespace Go.Proofs.Ytljkbnjdciljfaa
open Go.RowKit

theorem PP.wf {w W : World} {A G : Nat} {s t : Np} {S : Nat → Prop} (h : PP w W A G s t S) : Wf s := by
  obtain ⟨O, g, _, h2, _⟩ := h
  exact h2.wf
theorem upd_m {s : Np} {c : Int} {y : Cp} {k : Nat} : (s.upd c y k).m = s.m + k := rfl
theorem plS_m {s : Np} (h : Wf s) (x : Sp) : (plS s x).m ≤ s.m + 131072 := by
  have ha := h.a
  have hb := h.b
  unfold plS
  split
  · unfold openS; split
    · rw [upd_m]; omega
    · omega
  split
  · unfold sendS
    split
    · omega
    · split
      · omega
      · split
        · omega
        · rw [upd_m]; omega
  split
  · unfold bringS
    cases hx : s.at x.c with
    | none => dsimp only; omega
    | some y =>
      dsimp only
      rw [upd_m]
      have : bringK s x.c x.m ≤ s.a := by unfold bringK; rw [hx]; dsimp only; unfold partN; omega
      omega
  split
  · unfold takeS
    split
    · omega
    · split
      · omega
      · rw [upd_m]; omega
  split
  · unfold writeS
    split
    · omega
    · split
      · omega
      · rw [upd_m]; omega
  split
  · unfold fetchS
    cases hx : s.at x.c with
    | none => dsimp only; omega
    | some y =>
      dsimp only
      rw [upd_m]
      have h1 := (wf_at h hx).2.2.1
      have : fetchK s x.c x.m ≤ s.b := by unfold fetchK; rw [hx]; dsimp only; omega
      omega
  split
  · unfold closeS
    split
    · omega
    · split
      · omega
      · rw [upd_m]; omega
  split
  · unfold cutS
    split
    · omega
    · split
      · omega
      · rw [upd_m]; omega
  · omega
set_option maxHeartbeats 8000000 in
set_option maxRecDepth 100000 in
theorem plays_bad {w : World} (n0 n1 : Int) {v2 : Value} {L : List Sp} (hL : Sps w v2 L) (hab : ¬ (1 ≤ n0 ∧ n0 ≤ 131072) ∨ ¬ (1 ≤ n1 ∧ n1 ≤ 131072)) : Calls Try.prog 4 #[.int .i64 n0, .int .i64 n1, v2] w fun e w' => e = .returned (.bool true) ∧ Fr w w' (fun _ => False) := by
  have H1 := hid (nnew_bad w n0 n1 hab)
  have H2 := hid (rnew_bad w n0 n1 hab)
  obtain ⟨aL, cL, rfl, hLl, _⟩ := hL
  clear hab
  go_enter Try.func4, Try.ntmps4
  go_wp2_with fail
  refine H1.out.mono ?_
  rintro e w1 ⟨rfl, h9⟩
  obtain rfl : w = w1 := h9.symm
  clear h9 H1
  go_wp2_with fail
  refine H2.out.mono ?_
  rintro e w1 ⟨rfl, h9⟩
  obtain rfl : w = w1 := h9.symm
  clear h9 H2
  go_wp2_with fail
  go_loopw [11] (fun s11 wx => s11 = .int .i64 0 ∧ wx = w) (fun _ _ => 0)
  case atStart => exact ⟨rfl, rfl⟩
  case round =>
    obtain ⟨rfl, rfl⟩ := hrel
    by_cases hl : (0 : Int) < (L.length : Int)
    all_goals
      go_wp2_with fail
      go_loopw [12] (fun s12 wy => s12 = .int .i64 (-1) ∧ wy = wr) (fun _ _ => 0)
      case atStart => exact ⟨rfl, rfl⟩
      case round =>
        obtain ⟨rfl, rfl⟩ := hrel
        go_wp2_with fail
        refine (head_any _).mono ?_
        rintro e wz ⟨rfl, h1⟩
        have HZ := hid h1
        clear h1
        go_wp2_with fail
        go_ret
        exact ⟨rfl, HZ.out⟩
set_option maxHeartbeats 8000000 in
set_option maxRecDepth 100000 in
theorem plays_good {w : World} {a b : Nat} (ha : 1 ≤ a ∧ a ≤ 131072) (hb : 1 ≤ b ∧ b ≤ 131072) {v2 : Value} {L : List Sp} (hL : Sps w v2 L) : Calls Try.prog 4 #[.int .i64 (a : Int), .int .i64 (b : Int), v2] w fun e w' => e = .returned (.bool true) ∧ Fr w w' (fun _ => False) := by
  have H1 := hid (nnew_o (w := w) w (a := a) (b := b) ha hb (Nat.le_refl _))
  have H2 := hid (fun (W : World) (hs : w.heap.size ≤ W.heap.size) => rnew_ok (w := w) W (a := a) (b := b) ha hb hs)
  have HL := hid hL
  obtain ⟨aL, cL, rfl, hLl, _⟩ := hL
  clear ha hb
  go_enter Try.func4, Try.ntmps4
  go_wp2_with fail
  refine H1.out.mono ?_
  rintro e w1 ⟨A, rfl, O, h1, h2, h3⟩
  have HA := hid (And.intro h1 (And.intro h2 h3))
  clear h1 h2 h3 H1
  go_wp2_with fail
  refine (H2.out _ HA.out.2.2.size).mono ?_
  rintro e w2 ⟨g, rfl, h1, h2, h3⟩
  have HP : Hid (PP w w2 A g.G (np0 a b) (np0 a b) (fun _ => False)) := ⟨O, g, rfl, HA.out.1.still h3, h1, fun k hk hg => by have := HA.out.1.lt hk; have := h2 k hg; omega, HA.out.2.2.trans h3, fun k h => h.elim⟩
  clear h1 h2 h3 H2 HA
  generalize g.G = G at *
  go_wp2_with fail
  go_loopw [11] (fun s11 wx => ∃ (i : Nat) (s : Np), i ≤ L.length ∧ i ≤ 200 ∧ s11 = .int .i64 (i : Int) ∧ Hid (PP w wx A G s s (fun _ => False)) ∧ Hid (s.m ≤ i * 131072)) (fun s11 _ => L.length - (intOf s11).toNat)
  case atStart => exact ⟨0, _, Nat.zero_le _, by omega, rfl, HP, by show _ ≤ _; simp [np0]⟩
  case round =>
    clear HP
    obtain ⟨i, s, hi1, hi2, rfl, HP, HM⟩ := hrel
    have hsm : s.m ≤ 70368744177664 := Nat.le_trans HM.out (by omega)
    have HSM := hid hsm
    clear hsm
    by_cases hlt : i < L.length ∧ i < 200
    · have t1 : (i : Int) < (L.length : Int) := by omega
      have t2 : (i : Int) < 200 := by omega
      have t0 : (0 : Int) ≤ (i : Int) := by omega
      obtain ⟨bL, oL, rfl, gx0, gx1, ⟨av, cv, gx2, gx3, gx4⟩, gx5, glL⟩ := HL.out.at hlt.1
      have HB := hid gx4
      obtain ⟨st, hst⟩ : ∃ st, L.getD i sp0 = st := ⟨_, rfl⟩
      rw [hst] at gx0 gx1 gx2 gx3 gx5 HB
      have hr := (fr_rules HP.out.fr).1 bL
      have hx0 := (hr _ glL).trans gx0
      have hx1 := (hr _ glL).trans gx1
      have hx2 := (hr _ glL).trans gx2
      have hx3 := (hr _ glL).trans gx5
      have hlL : bL < wr.heap.size := Nat.lt_of_lt_of_le glL HP.out.fr.size
      have HLB : Hid (∀ W', Fr w W' (fun _ => False) → W'.cell? ⟨bL, oL + i * 4 + 1, none⟩ = some (.int .i64 st.c) ∧ bL < W'.heap.size) := fun W' hf => ⟨((fr_rules hf).1 bL _ glL).trans gx1, Nat.lt_of_lt_of_le glL hf.size⟩
      have HAS := hid (askd_any HP.out HSM.out st HB.out)
      have hmm := plS_m HP.out.wf st
      have HM2 : Hid ((plS s st).m ≤ (i + 1) * 131072) := by have := HM.out; show _ ≤ _; omega
      have HSM2 : Hid ((plS s st).m ≤ 70368744177664) := Nat.le_trans HM2.out (by omega)
      clear gx0 gx1 gx2 gx3 gx4 gx5 glL hr hst hmm HM HB HP HSM
      generalize plS s st = s' at *
      go_wp2_with fail
      refine HAS.out.mono ?_
      rintro e w3 ⟨rfl, h1⟩
      have HP2 := hid h1
      obtain ⟨hy1, hyl⟩ := HLB.out _ h1.fr
      have HT := hid (toldB_any h1 HSM2.out st.c)
      clear h1 HAS HLB hx0 hx1 hx2 hx3 hlL
      go_wp2_with fail
      refine HT.out.mono ?_
      rintro e w4 ⟨rfl, hf⟩
      have HP3 := hid (HP2.out.still hf)
      clear hf HT HP2 hy1 hyl
      go_wp2
      exact ⟨⟨i + 1, s', by omega, by omega, by go_num, HP3, HM2⟩, by simp [intOf]; omega⟩
    · have key : (¬ (i : Int) < (L.length : Int)) ∨ ((i : Int) < (L.length : Int) ∧ ¬ (i : Int) < 200) := by omega
      clear hlt HM hi1 hi2
      rcases key with t1 | ⟨t1, t2⟩
      all_goals
        go_wp2_with fail
        go_loopw [12] (fun s12 wy => ∃ c : Int, -1 ≤ c ∧ c ≤ 67 ∧ s12 = .int .i64 c ∧ Hid (PP w wy A G s s (fun _ => False))) (fun s12 _ => (67 - intOf s12).toNat)
        case atStart => exact ⟨-1, by omega, by omega, rfl, HP⟩
        case round =>
          clear HP
          obtain ⟨c, hc1, hc2, rfl, HP⟩ := hrel
          by_cases hc : c < 67
          · have HT := hid (toldB_any HP.out HSM.out c)
            go_wp2_with fail
            refine HT.out.mono ?_
            rintro e w4 ⟨rfl, hf⟩
            have HP3 := hid (HP.out.still hf)
            clear hf HT HP
            go_wp2
            exact ⟨⟨c + 1, by omega, by omega, rfl, HP3⟩, by simp [intOf]; omega⟩
          · have HF := hid HP.out.fr
            clear HP
            go_wp2_with fail
            refine (head_any _).mono ?_
            rintro e wz ⟨rfl, h1⟩
            have HZ := hid (HF.out.trans h1)
            clear h1
            go_wp2_with fail
            go_ret
            exact ⟨rfl, HZ.out⟩
theorem plays_walk {w : World} (n0 n1 : Int) {v2 : Value} {L : List Sp} (hL : Sps w v2 L) : Calls Try.prog 4 #[.int .i64 n0, .int .i64 n1, v2] w fun e w' => e = .returned (.bool true) ∧ Fr w w' (fun _ => False) := by
  by_cases h1 : 1 ≤ n0 ∧ n0 ≤ 131072
  · by_cases h2 : 1 ≤ n1 ∧ n1 ≤ 131072
    · obtain ⟨a, rfl⟩ := Int.eq_ofNat_of_zero_le (by omega : 0 ≤ n0)
      obtain ⟨b, rfl⟩ := Int.eq_ofNat_of_zero_le (by omega : 0 ≤ n1)
      exact plays_good (by omega) (by omega) hL
    · exact plays_bad n0 n1 hL (Or.inr h2)
  · exact plays_bad n0 n1 hL (Or.inl h1)
end Go.Proofs.Ytljkbnjdciljfaa
