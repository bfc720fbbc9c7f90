/- alike: the walk; scripts' steps as they are read. -/
import Derived.Test.YtimefcmemklhpaaEArgs
namespace Go.Proofs.Ytimefcmemklhpaa.E
open Go.RowKit Go.Maps Go.MuLone

set_option maxHeartbeats 4000000 in
set_option maxRecDepth 100000 in
theorem alike_any {w : World} {A B : Nat} {m1 m2 : Nat → Option Nat} {b : Bo} (h1 : Bk w 0 A m1 b) (h2 : Bk w 0 B m2 b) :
    Calls Try.prog 26 #[.pointer (some ⟨A, 0, none⟩), .pointer (some ⟨B, 0, none⟩)] w fun e w' => e = .returned (.bool true) ∧ Fr w w' (fun _ => False) := by
  have H1 := hid h1
  have H2 := hid h2
  have hn := h1.wf.now
  obtain ⟨n, hN⟩ : ∃ n, n = b.now := ⟨_, rfl⟩
  rw [← hN] at hn
  have HN := hid hN
  have e1 : eqB (heldL b) (heldL b) = true := by simp [eqB]
  have e2 : eqB (dyingL b) (dyingL b) = true := by simp [eqB]
  have HNow : Hid (∀ C m W, Bk w 0 C m b → Fr w W (fun _ => False) → Calls Try.prog 21 #[.pointer (some ⟨C, 0, none⟩)] W fun e w' => e = .returned (.int .i64 n) ∧ Fr W w' (fun _ => False)) := fun C m W h hf => by rw [HN.out]; exact now_any (h.step hf)
  clear h1 h2 hN
  go_enter Try.func26, Try.ntmps26
  go_wp2_with fail
  refine (HNow.out _ _ _ H1.out (Fr.refl _ _)).mono ?_
  rintro e w1 ⟨rfl, hf⟩
  have HF := hid hf
  clear hf
  go_wp2_with fail
  refine (HNow.out _ _ _ H2.out HF.out).mono ?_
  rintro e w2 ⟨rfl, hf⟩
  have HF := hid (HF.out.trans hf)
  clear hf
  go_wp2_with fail
  refine (heldM_any (H1.out.step HF.out)).mono ?_
  rintro e w3 ⟨v3, rfl, ho, hf⟩
  have HF := hid (HF.out.trans hf)
  have HO3 := hid ho
  clear hf ho
  go_wp2_with fail
  refine (heldM_any (H2.out.step HF.out)).mono ?_
  rintro e w4 ⟨v4, rfl, ho, hf⟩
  have HF := hid (HF.out.trans hf)
  have HO3 := hid (HO3.out.fr hf (fun _ _ h => h))
  have HO4 := hid ho
  clear hf ho
  go_wp2_with fail
  refine (ints_any HO3.out HO4.out).mono ?_
  rintro e w5 ⟨rfl, hf⟩
  rw [e1]
  have HF := hid (HF.out.trans hf)
  clear hf HO3 HO4
  go_wp2_with fail
  refine (dyingM_any (H1.out.step HF.out)).mono ?_
  rintro e w6 ⟨v6, rfl, ho, hf⟩
  have HF := hid (HF.out.trans hf)
  have HO3 := hid ho
  clear hf ho
  go_wp2_with fail
  refine (dyingM_any (H2.out.step HF.out)).mono ?_
  rintro e w7 ⟨v7, rfl, ho, hf⟩
  have HF := hid (HF.out.trans hf)
  have HO3 := hid (HO3.out.fr hf (fun _ _ h => h))
  have HO4 := hid ho
  clear hf ho
  go_wp2_with fail
  refine (ints_any HO3.out HO4.out).mono ?_
  rintro e w8 ⟨rfl, hf⟩
  rw [e2]
  have HF := hid (HF.out.trans hf)
  clear hf HO3 HO4
  go_wp2_with fail
  refine (liveM_any (H1.out.step HF.out)).mono ?_
  rintro e w9 ⟨rfl, hf⟩
  have HF := hid (HF.out.trans hf)
  clear hf
  go_wp2_with fail
  refine (liveM_any (H2.out.step HF.out)).mono ?_
  rintro e w10 ⟨rfl, hf⟩
  have HF := hid (HF.out.trans hf)
  clear hf e1 e2
  go_wp2_with fail
  go_loopg [5] 64 (fun g s5 wx => ∃ i : Nat, s5 = .int .i64 ((i : Int) + 1) ∧ i + g = 64 ∧ Hid (Fr w wx (fun _ => False)))
  case atStart => exact ⟨0, rfl, rfl, HF⟩
  case round =>
    obtain ⟨i, rfl, hg, HFi⟩ := hrel
    clear HF
    cases gk with
    | zero =>
      have t1 : ¬ (i : Int) + 1 ≤ 64 := by omega
      clear hg
      go_wp2_with fail
      go_ret
      exact ⟨rfl, HFi.out⟩
    | succ g =>
      have t1 : (i : Int) + 1 ≤ 64 := by omega
      have HG := hid hg
      clear hg
      go_wp2_with fail
      refine (HNow.out _ _ _ H1.out HFi.out).mono ?_
      rintro e w11 ⟨rfl, hf⟩
      have HF := hid (HFi.out.trans hf)
      clear hf
      go_wp2_with fail
      go_loopg [6] 8 (fun g s6 wx => ∃ j : Nat, s6 = .int .i64 (n - 8 + (j : Int)) ∧ j + g = 8 ∧ Hid (Fr w wx (fun _ => False)))
      case atStart => exact ⟨0, by simp, rfl, HF⟩
      case round =>
        obtain ⟨j, rfl, hgj, HFj⟩ := hrel
        clear HF
        go_wp2_with fail
        refine (HNow.out _ _ _ H1.out HFj.out).mono ?_
        rintro e w12 ⟨rfl, hf⟩
        have HF := hid (HFj.out.trans hf)
        clear hf
        cases gk with
        | zero =>
          have t2 : ¬ n - 8 + (j : Int) < n := by omega
          clear hgj
          go_wp2_with fail
          go_roundg g
          case rel => exact ⟨i + 1, by simp, by have := HG.out; omega, HF⟩
          case measure => omega
        | succ g2 =>
          have t2 : n - 8 + (j : Int) < n := by omega
          have HGJ := hid hgj
          have hfits : fits (n - 8 + (j : Int)) := by unfold fits; omega
          have HFT := hid hfits
          clear hgj hfits
          go_wp2_with fail
          refine (holds_any (H1.out.step HF.out) ((i : Int) + 1) (n - 8 + (j : Int)) HFT.out).mono ?_
          rintro e w13 ⟨rfl, hf⟩
          have HF := hid (HF.out.trans hf)
          clear hf
          go_wp2_with fail
          refine (holds_any (H2.out.step HF.out) ((i : Int) + 1) (n - 8 + (j : Int)) HFT.out).mono ?_
          rintro e w14 ⟨rfl, hf⟩
          have HF := hid (HF.out.trans hf)
          clear hf
          generalize holdsB b ((i : Int) + 1) (n - 8 + (j : Int)) = hh at *
          go_wp2_with fail
          go_roundg g2
          case rel => exact ⟨j + 1, by congr 1; simp; omega, by have := HGJ.out; omega, HF⟩
          case measure => omega

/-- A script's step, where it is read. -/
theorem Sc.at {w W : World} {v : Value} {ss : List Stp} (h : Sc w v ss) (hf : Fr w W (fun _ => False)) {i : Nat} (hi : i < ss.length) : ∃ b off cap, v = .slice (some ⟨b, off, none⟩) ss.length cap ∧ StAt W b (off + i * 4) (ss.getD i st0) ∧ b < W.heap.size := by
  obtain ⟨ao, cap, rfl, h⟩ := h
  obtain ⟨b, off, rfl, hst⟩ := h (by rintro rfl; simp at hi)
  obtain ⟨q0, q1, q2, q3, hfit⟩ := hst i hi
  have hbw := hf.below (Nat.le_refl _) (fun _ h => h.elim)
  have qb := World.block_lt_of_cell? w _ q0
  have r0 := (hbw.cell (p := ⟨b, off + i * 4, none⟩) qb).trans q0
  exact ⟨b, off, cap, rfl, ⟨r0, (hbw.cell (p := ⟨b, off + i * 4 + 1, none⟩) qb).trans q1, (hbw.cell (p := ⟨b, off + i * 4 + 2, none⟩) qb).trans q2, (hbw.cell (p := ⟨b, off + i * 4 + 3, none⟩) qb).trans q3, hfit⟩, World.block_lt_of_cell? W _ r0⟩
theorem fm_alike {w W : World} {n : Nat} {Bs : Nat → Nat} {st : Nat → Bo} (h : Fm w W n Bs st) {i j : Nat} (hi : i < n) (hj : j < n) {A B : Nat} (hA : Bs i = A) (hB : Bs j = B) (he : st i = st j) :
    Calls Try.prog 26 #[.pointer (some ⟨A, 0, none⟩), .pointer (some ⟨B, 0, none⟩)] W fun e w' => e = .returned (.bool true) ∧ Fr W w' (fun _ => False) := by
  subst hA hB
  obtain ⟨M, h⟩ := h
  have h1 := h.bk i hi
  have h2 := h.bk j hj
  rw [← he] at h2
  exact alike_any h1 h2
/-- A book behind some steps. -/
def runB (b : Bo) (ss : List Stp) : Bo := ss.foldl doB b
theorem runB_take (b : Bo) (ss : List Stp) {i : Nat} (hi : i < ss.length) : runB b (ss.take (i + 1)) = doB (runB b (ss.take i)) (ss.getD i st0) := by
  unfold runB
  rw [List.take_add_one, List.foldl_append]
  simp [List.getD, hi]
theorem runB_full (b : Bo) (ss : List Stp) {i : Nat} (hi : ss.length ≤ i) : runB b (ss.take i) = runB b ss := by rw [List.take_of_length_le hi]
end Go.Proofs.Ytimefcmemklhpaa.E
