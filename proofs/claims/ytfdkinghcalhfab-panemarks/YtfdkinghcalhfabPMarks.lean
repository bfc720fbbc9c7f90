/- The law PaneMarks: its walk. -/
import Derived.Test.YtfdkinghcalhfabPMarks0
import Derived.Deep.DeepCutAuto
namespace Go.Proofs.Ytfdkinghcalhfab
open Go.RowKit

/-- A slice from a place on. -/
theorem slice_from {b len cap i : Nat} (hi : i ≤ len) (hc : len ≤ cap) (hm : len ≤ 64) : ∃ V, (∀ W : World, (Instr.slice 27 (.slice (some ⟨b, 0, none⟩) len cap) (some (.int .i64 (i : Int))) none none).run Try.prog W = .ok V W) ∧
    ∀ (W : World) (xs : List Int) (rest : List Value), RowV W b (iv xs ++ rest) → xs.length = len → (∀ x ∈ xs, fits x) → Is W V (xs.drop i) := by
  by_cases he : cap = i
  · refine ⟨.slice (some ⟨b, 0, none⟩) (len - i) (cap - i), fun W => ?_, fun W xs rest hr hl hf => ?_⟩
    · have : i = len := by omega
      subst this he
      go_simp
    · refine ⟨_, _, by rw [List.length_drop, hl], by rw [List.length_drop]; omega, fun x hx => hf x (List.mem_of_mem_drop hx), fun hne => absurd (List.eq_nil_of_length_eq_zero (by rw [List.length_drop]; omega)) hne⟩
  · refine ⟨.slice (some ⟨b, i, none⟩) (len - i) (cap - i), fun W => ?_, fun W xs rest hr hl hf => ?_⟩
    · go_simp
    · refine ⟨_, _, by rw [List.length_drop, hl], by rw [List.length_drop]; omega, fun x hx => hf x (List.mem_of_mem_drop hx), fun hne => ⟨b, i, rfl, fun j hj => ?_⟩⟩
      rw [List.length_drop] at hj
      rw [hr.cell, List.getElem?_append_left (by rw [iv_length]; omega), iv_get _ (i + j) (by omega)]
      simp [List.getD]

/-- What stands in PaneMarks: the view, the starts, what is open under both marks. -/
structure MI (w W : World) (s d l : Int) (xs ys zs : List Int) (b1 b2 b3 : Nat) : Prop where
  vf : VF w s d l W
  r1 : RowV W b1 (iv xs)
  r2 : ∃ rest, RowV W b2 (iv ys ++ rest)
  r3 : ∃ rest, RowV W b3 (iv zs ++ rest)
theorem MI.step {w W W' : World} {s d l : Int} {xs ys zs : List Int} {b1 b2 b3 : Nat} (h : MI w W s d l xs ys zs b1 b2 b3) (hf : Fr W W' (fun _ => False)) : MI w W' s d l xs ys zs b1 b2 b3 := by
  obtain ⟨r, hr⟩ := h.r2
  obtain ⟨r', hr'⟩ := h.r3
  exact ⟨h.vf.step hf, h.r1.fr hf (fun h => h), ⟨r, hr.fr hf (fun h => h)⟩, ⟨r', hr'.fr hf (fun h => h)⟩⟩
theorem MI.drew {w W : World} {s d l : Int} {xs ys zs : List Int} {b1 b2 b3 : Nat} (h : MI w W s d l xs ys zs b1 b2 b3) : MI w W.drew s d l xs ys zs b1 b2 b3 := h.step (Fr.refl _ _).drew
theorem MI.alloc {w W : World} {s d l : Int} {xs ys zs : List Int} {b1 b2 b3 : Nat} (h : MI w W s d l xs ys zs b1 b2 b3) (o : Obj) : MI w (W.alloc o) s d l xs ys zs b1 b2 b3 := h.step (alloc_fr _ _ _)
theorem mul_tmod' (k d : Int) : (k * d).tmod d = 0 := Int.mul_tmod_left k d
theorem tmod42 (q : Int) : -4398046511104 < q.tmod 4398046511104 ∧ q.tmod 4398046511104 < 4398046511104 := ⟨Int.lt_tmod_of_pos q (by decide), Int.tmod_lt_of_pos q (by decide)⟩

theorem openRow_is {w w' : World} {v : Value} {xs : List Int} {n : Nat} (h : OpenRow w w' v xs n) (hf : ∀ x ∈ xs, fits x) (hl : xs.length ≤ 64) : Is w' v xs := by
  obtain ⟨b, rest, rfl, _, hr, _⟩ := h.row
  refine ⟨_, _, rfl, by omega, hf, fun _ => ⟨b, 0, rfl, fun i hi => ?_⟩⟩
  rw [hr.cell, Nat.zero_add, List.getElem?_append_left (by rw [iv_length]; exact hi), iv_get _ i hi]

set_option maxRecDepth 100000 in
set_option maxHeartbeats 8000000 in
theorem paneMarks_walk (s d l t m o : Int) (_ : fits s) (_ : fits d) (_ : fits l) (_ : fits t) (_ : fits m) (_ : fits o) (w : World) : Calls Try.prog 4 #[.agg #[.int .i64 s, .int .i64 d, .int .i64 l], .int .i64 t, .int .i64 m, .int .i64 o] w fun e w' => e = .returned (.bool true) ∧ Fr w w' (fun _ => False) := by
  by_cases h : OkV s d l
  · have HR := hid (fun W : World => right_ok h W)
    have HW := hid (fun W : World => within_any t W)
    obtain ⟨hT1, hT2⟩ := within_bd t
    obtain ⟨hm1, hm2⟩ := tmod42 m
    obtain ⟨ho1, ho2⟩ := tmod42 o
    generalize t.tmod 576460752303423488 = T at *
    have hs1 := h.s1
    have hs2 := h.s2
    have hd1 := h.d1
    have hd2 := h.d2
    have hl1 := h.l1
    have hl2 := h.l2
    have HS := hid (fun W : World => starts_ok (t := T) h (by unfold Ti; omega) W)
    have HO := hid (fun (M : Int) (W : World) => open_ok (t := T) M h (by unfold Ti; omega) W)
    have HV := hid h
    have hlen : (startsL s d T).length ≤ 64 := startsL_short h
    clear h
    go_enter Try.func4, Try.ntmps4
    go_wp2_with fail
    refine (HR.out _).mono ?_
    rintro e w1 ⟨rfl, hf1⟩
    have HA1 := hid ((VF.new w s d l).step hf1)
    clear hf1
    obtain ⟨c0, c1, c2⟩ := HA1.out.vw.cells
    have hlt := HA1.out.vw.lt
    go_wp2_with fail
    refine (HW.out _).mono ?_
    rintro e w1' ⟨rfl, hw1⟩
    subst hw1
    go_upto_region 5 with fail
    have hM1 : T - 4398046511104 < T + m.tmod 4398046511104 := by omega
    have hM2 : T + m.tmod 4398046511104 < T + 4398046511104 := by omega
    generalize T + m.tmod 4398046511104 = M at *
    go_cut [9] (fun s9 wx => ∃ L : Int, s9 = .int .i64 L ∧ M ≤ L ∧ L < M + 4398046511104 ∧ wx = w1')
    case first =>
      go_wp2_with fail
      all_goals go_meet
      all_goals exact ⟨_, rfl, by omega, by omega, rfl⟩
    case rest =>
      obtain ⟨L, rfl, hL1, hL2, rfl⟩ := hcut
      clear hm1 hm2 ho1 ho2
      have HO1 := hid (fun W : World => HO.out M W)
      have HO2 := hid (fun W : World => HO.out L W)
      have HO3 := hid (fun W : World => HO.out (-4611686018427387904) W)
      have HF1 := hid (fun W : World => first_any (m := M) HV.out (by unfold Mk; omega) W)
      have HF2 := hid (fun W : World => first_any (m := L) HV.out (by unfold Mk; omega) W)
      rw [openL_all HV.out (by omega)] at HO3
      have HX1 := hid (openL_tail (s := s) (l := l) (t := T) (m := M) hd1)
      have HX2 := hid (openL_end (s := s) (l := l) (t := T) hd1 hL1)
      have HX3 := hid (openL_len s l M (startsL s d T))
      have HX4 : Hid ((openL s l L (startsL s d T)).length ≤ (openL s l M (startsL s d T)).length) := by
        have h1 := cutP_mono (s := s) (l := l) (t := T) hd1 hL1
        have h2 := cutP_le s d l T L
        rw [openL_length hd1, openL_length hd1]
        show _ ≤ _
        omega
      have HX5 := hid (fun (i : Nat) (hi : i < (startsL s d T).length) => first_cut (s := s) (l := l) (t := T) (m := M) hd1 (by rw [← startsL_length]; exact hi))
      have HX6 := hid (fun x (hx : x ∈ startsL s d T) => (startsL_mem hs1 hd1).1 hx)
      have HFT := hid (startsL_fits HV.out (show Ti T by unfold Ti; omega))
      have hfm := oldK_mono (s := s) hd1 (show M - l ≤ L - l by omega)
      have HFM := hid (mul_mono hfm (show 0 ≤ d by omega))
      have hfn := oldK_near (s := s) (t := M - l) hd1 hs1
      have HFK := hid (mul_tmod' (oldK s d (M - l)) d)
      have HFP : Hid (oldK s d (M - l) * d - d + s + l ≤ M) := by
        have h1 := (oldK_gt (s := s) (t := M - l) (k := oldK s d (M - l) - 1) hd1).1 (by omega)
        rw [Int.sub_mul, Int.one_mul] at h1
        show _ ≤ _
        omega
      generalize startsL s d T = xs at *
      generalize openL s l M xs = ys at *
      generalize openL s l L xs = zs at *
      generalize oldK s d (L - l) * d = F2 at *
      generalize oldK s d (M - l) * d = F at *
      clear HO hfm
      go_wp2_with fail
      refine (HS.out _).mono ?_
      rintro e w2 ⟨b1, rfl, hb1, hr1, hf2⟩
      have HA2 := hid (HA1.out.step hf2)
      have HR1 := hid hr1
      clear hf2 hr1 hb1 HA1 c0 c1 c2 hlt
      obtain ⟨c0, c1, c2⟩ := HA2.out.vw.cells
      have hlt := HA2.out.vw.lt
      go_wp2_with fail
      refine (HO1.out _).mono ?_
      rintro e w3 ⟨v2, rfl, hr2⟩
      obtain ⟨b2, rest2, rfl, hb2, hr2', hl2'⟩ := hr2.row
      have HA3 := hid (HA2.out.step hr2.fr)
      have HR13 := hid (HR1.out.fr hr2.fr (fun h => h))
      have HR2 := hid hr2'
      clear hr2 hr2' hl2' hb2 HA2 HR1 c0 c1 c2 hlt
      obtain ⟨c0, c1, c2⟩ := HA3.out.vw.cells
      have hlt := HA3.out.vw.lt
      go_wp2_with fail
      refine (HO2.out _).mono ?_
      rintro e w4 ⟨v3, rfl, hr3⟩
      obtain ⟨b3, rest3, rfl, hb3, hr3', hl3'⟩ := hr3.row
      have HM : Hid (MI w w4 s d l xs ys zs b1 b2 b3) := ⟨HA3.out.step hr3.fr, HR13.out.fr hr3.fr (fun h => h), ⟨_, HR2.out.fr hr3.fr (fun h => h)⟩, ⟨_, hr3'⟩⟩
      clear hr3 hr3' hl3' hb3 HA3 HR2 HR13 c0 c1 c2 hlt HO1 HO2 HS HR HW
      obtain ⟨c0, c1, c2⟩ := HM.out.vf.vw.cells
      have hlt := HM.out.vf.vw.lt
      have hx3 := HX3.out
      have hx4 := HX4.out
      have t1 : ¬ (xs.length : Int) < (ys.length : Int) := by omega
      have t2 : ¬ (ys.length : Int) < (zs.length : Int) := by omega
      go_wp2_with fail
      refine (HF1.out _).mono ?_
      rintro e w5 ⟨rfl, hf5⟩
      have HM5 := hid (HM.out.step hf5)
      clear hf5 HM c0 c1 c2 hlt HF1
      obtain ⟨c0, c1, c2⟩ := HM5.out.vf.vw.cells
      have hlt := HM5.out.vf.vw.lt
      obtain ⟨hfn1, hfn2⟩ := hfn
      have p1 : decide (F + s + l ≤ M) = false := by simp; omega
      have p2 : decide (F - d + s + l ≤ M) = true := by simpa using HFP.out
      have HC1 := hid (fun W : World => closed_any s d l F M (by unfold fits; omega) (by unfold fits; omega) W)
      have HC2 := hid (fun W : World => closed_any s d l (F - d) M (by unfold fits; omega) (by unfold fits; omega) W)
      rw [p1] at HC1
      rw [p2] at HC2
      have hfk := HFK.out
      have t3 : ¬ F2 < F := by have := HFM.out; omega
      have hd0 : ¬ d = 0 := by omega
      clear p1 p2
      go_wp2_with fail
      refine (HC1.out _).mono ?_
      rintro e w6 ⟨rfl, hf6⟩
      have HM6 := hid (HM5.out.step hf6)
      clear hf6 HM5 c0 c1 c2 hlt HC1
      obtain ⟨c0, c1, c2⟩ := HM6.out.vf.vw.cells
      have hlt := HM6.out.vf.vw.lt
      go_wp2_with fail
      refine (HC2.out _).mono ?_
      rintro e w7 ⟨rfl, hf7⟩
      have HM7 := hid (HM6.out.step hf7)
      clear hf7 HM6 c0 c1 c2 hlt HC2
      obtain ⟨c0, c1, c2⟩ := HM7.out.vf.vw.cells
      have hlt := HM7.out.vf.vw.lt
      go_wp2_with fail
      refine (HF2.out _).mono ?_
      rintro e w8 ⟨rfl, hf8⟩
      have HM8 := hid (HM7.out.step hf8)
      clear hf8 HM7 c0 c1 c2 hlt HF2 hfk
      have hn1 : (xs.length : Int) - (ys.length : Int) = ((xs.length - ys.length : Nat) : Int) := by omega
      have hn2 : (ys.length : Int) - (zs.length : Int) = ((ys.length - zs.length : Nat) : Int) := by omega
      obtain ⟨V1, hV1, hI1⟩ := slice_from (b := b1) (len := xs.length) (cap := xs.length) (i := xs.length - ys.length) (by omega) (Nat.le_refl _) hlen
      obtain ⟨V2, hV2, hI2⟩ := slice_from (b := b2) (len := ys.length) (cap := xs.length) (i := ys.length - zs.length) (by omega) hx3 (by omega)
      have HI1 := hid hI1
      have HI2 := hid hI2
      have HV2 := hid hV2
      clear hI1 hI2
      go_wp2_with fail
      clear hV1 hV2 hn1 hn2 t1 t2 t3 hd0
      have HY : Hid (Is w8 (.slice (some ⟨b2, 0, none⟩) ys.length xs.length) ys) := by
        obtain ⟨r, hr⟩ := HM8.out.r2
        refine ⟨_, _, rfl, by omega, fun x hx => HFT.out x (by rw [HX1.out] at hx; exact List.mem_of_mem_drop hx), fun _ => ⟨b2, 0, rfl, fun i hi => ?_⟩⟩
        rw [hr.cell, Nat.zero_add, List.getElem?_append_left (by rw [iv_length]; exact hi), iv_get _ i hi]
      have HSA := hid (same_true _ V1 ys w8 HY.out (by
        have h1 := HI1.out w8 xs [] (by rw [List.append_nil]; exact HM8.out.r1) rfl HFT.out
        rw [← HX1.out] at h1
        exact h1))
      refine HSA.out.mono ?_
      rintro e w9 ⟨rfl, hf9⟩
      have HM9 := hid (HM8.out.step hf9)
      clear hf9 HM8 HSA HY HI1
      have hn2 : (ys.length : Int) - (zs.length : Int) = ((ys.length - zs.length : Nat) : Int) := by omega
      have hV2' := HV2.out
      go_wp2_with fail
      clear hV2' hn2
      have HFY : Hid (∀ x ∈ ys, fits x) := fun x hx => HFT.out x (by rw [HX1.out] at hx; exact List.mem_of_mem_drop hx)
      have HZ : Hid (Is w9 (.slice (some ⟨b3, 0, none⟩) zs.length xs.length) zs) := by
        obtain ⟨r, hr⟩ := HM9.out.r3
        refine ⟨_, _, rfl, by omega, fun x hx => HFY.out x (by rw [HX2.out] at hx; exact List.mem_of_mem_drop hx), fun _ => ⟨b3, 0, rfl, fun i hi => ?_⟩⟩
        rw [hr.cell, Nat.zero_add, List.getElem?_append_left (by rw [iv_length]; exact hi), iv_get _ i hi]
      have HSB := hid (same_true _ V2 zs w9 HZ.out (by
        obtain ⟨r, hr⟩ := HM9.out.r2
        have h1 := HI2.out w9 ys r hr rfl HFY.out
        rw [← HX2.out] at h1
        exact h1))
      refine HSB.out.mono ?_
      rintro e w10 ⟨rfl, hf10⟩
      have HMA := hid (HM9.out.step hf10)
      clear hf10 HM9 HSB HZ HI2 HV2
      go_wp2_with fail
      go_loopg [17] xs.length (fun g s17 wx => ∃ i : Nat, s17 = .int .i64 (i : Int) ∧ i + g = xs.length ∧ Hid (MI w wx s d l xs ys zs b1 b2 b3))
      case atStart => exact ⟨0, rfl, by omega, HMA⟩
      case round =>
        obtain ⟨i, rfl, hg, HMI⟩ := hrel
        clear HMA
        obtain ⟨c0, c1, c2⟩ := HMI.out.vf.vw.cells
        have hlt := HMI.out.vf.vw.lt
        cases gk with
        | zero =>
          have t1 : ¬ (i : Int) < (xs.length : Int) := by omega
          clear hg
          go_wp2_with fail
          refine (HO3.out _).mono ?_
          rintro e w11 ⟨v5, rfl, hr5⟩
          have HIS := hid (openRow_is hr5 HFT.out hlen)
          have HMB := hid (HMI.out.step hr5.fr)
          clear hr5 c0 c1 c2 hlt
          have HSC := hid (same_true v5 _ xs w11 HIS.out (row_is HMB.out.r1 HFT.out (by omega) xs.length))
          go_wp2_with fail
          refine HSC.out.mono ?_
          rintro e w12 ⟨rfl, hf12⟩
          have HF12 := hid (HMB.out.vf.fr.trans hf12)
          clear hf12
          go_wp2_with fail
          refine (head_any _).mono ?_
          rintro e w13 ⟨rfl, hf13⟩
          have HF13 := hid (HF12.out.trans hf13)
          clear hf13
          go_wp2_with fail
          go_ret
          exact ⟨rfl, HF13.out⟩
        | succ g =>
          have hi : i < xs.length := by omega
          have t1 : (i : Int) < (xs.length : Int) := by omega
          have HG := hid hg
          clear hg c0 c1 c2
          have hp := HX5.out i hi
          obtain ⟨k, hyk, hy1, hy2⟩ := HX6.out (xs.getD i 0) (by simp [List.getD, hi])
          have HC := hid (fun (W : World) (h : MI w W s d l xs ys zs b1 b2 b3) => (⟨by rw [h.r1.cell, iv_get _ i hi], h.vf.vw.cells⟩ : W.cell? ⟨b1, i, none⟩ = some (.int .i64 (xs.getD i 0)) ∧ W.cell? ⟨w.heap.size, 0, none⟩ = some (.int .i64 s) ∧ W.cell? ⟨w.heap.size, 1, none⟩ = some (.int .i64 d) ∧ W.cell? ⟨w.heap.size, 2, none⟩ = some (.int .i64 l)))
          clear hyk k
          generalize xs.getD i 0 = y at *
          have f1 : fits (y + s) := by unfold fits; omega
          have f2 : fits (y + s + l) := by unfold fits; omega
          have HE := hid (fun W : World => end_any s d l y f1 W)
          have HCL : Hid (∀ (m : Int) (W : World), Calls Try.prog 15 #[.agg #[.int .i64 s, .int .i64 d, .int .i64 l], .int .i64 y, .int .i64 m] W fun e w' => e = .returned (.bool (shutB s l m y)) ∧ Fr W w' (fun _ => False)) := fun m W => closed_any s d l y m f1 f2 W
          have n1 : IntKind.i64.wrap (y + s + l) = y + s + l := wrap_fit f2
          have n2 : IntKind.i64.wrap (y + s + l - 1) = y + s + l - 1 := wrap_fit (by unfold fits; omega)
          clear f1 f2
          go_wp2_with fail
          first
            | go_region_held3 (fun W' => Hid (MI w W' s d l xs ys zs b1 b2 b3) ∧ W'.cell? ⟨b1, i, none⟩ = some (.int .i64 y) ∧ W'.cell? ⟨w.heap.size, 0, none⟩ = some (.int .i64 s) ∧ W'.cell? ⟨w.heap.size, 1, none⟩ = some (.int .i64 d) ∧ W'.cell? ⟨w.heap.size, 2, none⟩ = some (.int .i64 l))
                ((refine (fun h => ⟨h, HC.out _ h⟩ : MI w _ s d l xs ys zs b1 b2 b3 → _) ?_; repeat (first | exact HMI.out | apply MI.drew | apply MI.alloc)))
                ((go_at_call 11; refine (HE.out _).mono ?_; rintro e v1 ⟨rfl, hf⟩; have HMI := hid (MI.step (by repeat (first | exact HMI.out | apply MI.drew | apply MI.alloc)) hf); clear hf))
            | fail
          have m1 : shutB s l (y + s + l) y = true := decide_eq_true (Int.le_refl _)
          have m2 : shutB s l (y + s + l - 1) y = false := decide_eq_false (by omega)
          obtain ⟨B1, hB1⟩ : ∃ B1, shutB s l M y = B1 := ⟨_, rfl⟩
          have hB1' : decide (y + s + l ≤ M) = B1 := hB1
          obtain ⟨B2, hB2⟩ : ∃ B2, decide (F ≤ y) = B2 := ⟨_, rfl⟩
          rw [hB2] at hp
          have hp1 : decide (xs.length ≤ i + ys.length) = B2 := by
            rw [hp, decide_eq_decide]
            omega
          have n3 : IntKind.i64.wrap ((xs.length : Int) - (ys.length : Int)) = ((xs.length - ys.length : Nat) : Int) := by rw [wrap_fit (by unfold fits; omega)]; omega
          obtain ⟨c, hc⟩ : ∃ c, c = xs.length - ys.length := ⟨_, rfl⟩
          have hp2 : decide (c ≤ i) = B2 := by
            rw [hp, decide_eq_decide]
            omega
          have hp3 : decide ((c : Int) ≤ (i : Int)) = B2 := by
            rw [hp, decide_eq_decide]
            omega
          rw [← hc] at n3
          have HCC := hid hc
          clear hc hp hp1 n1
          go_wp2_with fail
          first
            | go_region_held3 (fun W' => Hid (MI w W' s d l xs ys zs b1 b2 b3) ∧ W'.cell? ⟨b1, i, none⟩ = some (.int .i64 y) ∧ W'.cell? ⟨w.heap.size, 0, none⟩ = some (.int .i64 s) ∧ W'.cell? ⟨w.heap.size, 1, none⟩ = some (.int .i64 d) ∧ W'.cell? ⟨w.heap.size, 2, none⟩ = some (.int .i64 l))
                ((refine (fun h => ⟨h, HC.out _ h⟩ : MI w _ s d l xs ys zs b1 b2 b3 → _) ?_; repeat (first | exact HMI.out | apply MI.drew | apply MI.alloc)))
                ((go_at_call 15; refine (HCL.out _ _).mono ?_; rintro e v1 ⟨rfl, hf⟩; have HMI := hid (MI.step (by repeat (first | exact HMI.out | apply MI.drew | apply MI.alloc)) hf); clear hf))
            | fail
          all_goals (go_wp2_with fail)
          all_goals go_roundg g
          all_goals (first | exact ⟨i + 1, by go_num, by have := HG.out; omega, HMI⟩ | omega)
  · have HR := hid (fun W : World => right_bad h W)
    clear h
    go_enter Try.func4, Try.ntmps4
    go_wp2_with fail
    refine (HR.out _).mono ?_
    rintro e w1 ⟨rfl, hf1⟩
    have HF1 := hid ((alloc_fr w _ _).trans hf1)
    clear hf1
    go_wp2_with fail
    refine (head_any _).mono ?_
    rintro e w3 ⟨rfl, hf3⟩
    have HF3 := hid (HF1.out.trans hf3)
    clear hf3
    go_wp2_with fail
    go_ret
    exact ⟨rfl, HF3.out⟩
end Go.Proofs.Ytfdkinghcalhfab
