/- EpochTwins: the walk. -/
import Derived.Test.YtekooeekaigmaaaEAlike
import Derived.Test.YtekooeekaigmaaaETwin2
namespace Go.Proofs.Ytekooeekaigmaaa.E
open Go.RowKit Go.Maps Go.MuLone

/-- What the loops keep: four books apart, what they are. -/
def F4 (w W : World) (Bs : Nat → Nat) (b x y z : Bo) : Prop := ∃ st, Fm w W 4 Bs st ∧ st 0 = b ∧ st 1 = x ∧ st 2 = y ∧ st 3 = z
theorem F4.fr {w W : World} {Bs : Nat → Nat} {b x y z : Bo} (h : F4 w W Bs b x y z) : Fr w W (fun _ => False) := by obtain ⟨st, h, _⟩ := h; exact h.fr
theorem F4.step {w W W' : World} {Bs : Nat → Nat} {b x y z : Bo} (h : F4 w W Bs b x y z) (hf : Fr W W' (fun _ => False)) : F4 w W' Bs b x y z := by obtain ⟨st, h, r⟩ := h; exact ⟨st, h.step hf, r⟩
theorem F4.do0 {w W : World} {Bs : Nat → Nat} {b x y z : Bo} (h : F4 w W Bs b x y z) {B : Nat} (hB : Bs 0 = B) (s : Stp) (hs : s.fits) :
    Calls Try.prog 19 #[.pointer (some ⟨B, 0, none⟩), .agg #[.int .i64 s.k, .int .i64 s.o, .int .i64 s.e, .bool s.l]] W fun e w' => ∃ r, e = .returned (.bool r) ∧ F4 w w' Bs (doB b s) x y z := by
  obtain ⟨st, h, rfl, rfl, rfl, rfl⟩ := h
  refine (h.run (i := 0) (by omega) hB (fun m hb => do_any hb s hs)).mono ?_
  rintro e w' ⟨he, hf, _⟩
  exact ⟨_, he, _, hf, rfl, rfl, rfl, rfl⟩
theorem F4.do1 {w W : World} {Bs : Nat → Nat} {b x y z : Bo} (h : F4 w W Bs b x y z) {B : Nat} (hB : Bs 1 = B) (s : Stp) (hs : s.fits) :
    Calls Try.prog 19 #[.pointer (some ⟨B, 0, none⟩), .agg #[.int .i64 s.k, .int .i64 s.o, .int .i64 s.e, .bool s.l]] W fun e w' => ∃ r, e = .returned (.bool r) ∧ F4 w w' Bs b (doB x s) y z := by
  obtain ⟨st, h, rfl, rfl, rfl, rfl⟩ := h
  refine (h.run (i := 1) (by omega) hB (fun m hb => do_any hb s hs)).mono ?_
  rintro e w' ⟨he, hf, _⟩
  exact ⟨_, he, _, hf, rfl, rfl, rfl, rfl⟩
theorem F4.do2 {w W : World} {Bs : Nat → Nat} {b x y z : Bo} (h : F4 w W Bs b x y z) {B : Nat} (hB : Bs 2 = B) (s : Stp) (hs : s.fits) :
    Calls Try.prog 19 #[.pointer (some ⟨B, 0, none⟩), .agg #[.int .i64 s.k, .int .i64 s.o, .int .i64 s.e, .bool s.l]] W fun e w' => ∃ r, e = .returned (.bool r) ∧ F4 w w' Bs b x (doB y s) z := by
  obtain ⟨st, h, rfl, rfl, rfl, rfl⟩ := h
  refine (h.run (i := 2) (by omega) hB (fun m hb => do_any hb s hs)).mono ?_
  rintro e w' ⟨he, hf, _⟩
  exact ⟨_, he, _, hf, rfl, rfl, rfl, rfl⟩
theorem F4.do3 {w W : World} {Bs : Nat → Nat} {b x y z : Bo} (h : F4 w W Bs b x y z) {B : Nat} (hB : Bs 3 = B) (s : Stp) (hs : s.fits) :
    Calls Try.prog 19 #[.pointer (some ⟨B, 0, none⟩), .agg #[.int .i64 s.k, .int .i64 s.o, .int .i64 s.e, .bool s.l]] W fun e w' => ∃ r, e = .returned (.bool r) ∧ F4 w w' Bs b x y (doB z s) := by
  obtain ⟨st, h, rfl, rfl, rfl, rfl⟩ := h
  refine (h.run (i := 3) (by omega) hB (fun m hb => do_any hb s hs)).mono ?_
  rintro e w' ⟨he, hf, _⟩
  exact ⟨_, he, _, hf, rfl, rfl, rfl, rfl⟩
/-- One book. -/
def F1 (w W : World) (B : Nat) (b : Bo) : Prop := Fm w W 1 (upd (fun _ => 0) 0 B) (fun _ => b)
theorem F1.do {w W : World} {B : Nat} {b : Bo} (h : F1 w W B b) (s : Stp) (hs : s.fits) :
    Calls Try.prog 19 #[.pointer (some ⟨B, 0, none⟩), .agg #[.int .i64 s.k, .int .i64 s.o, .int .i64 s.e, .bool s.l]] W fun e w' => ∃ r, e = .returned (.bool r) ∧ F1 w w' B (doB b s) := by
  refine (Fm.run h (i := 0) (by omega) rfl (fun m hb => do_any hb s hs)).mono ?_
  rintro e w' ⟨he, hf, _⟩
  refine ⟨_, he, ?_⟩
  obtain ⟨M, hf⟩ := hf
  refine ⟨M, fun i hi => ?_, hf.apart, hf.lo, hf.fr⟩
  have : i = 0 := by omega
  subst this
  exact hf.bk 0 hi

set_option maxHeartbeats 8000000 in
set_option maxRecDepth 100000 in
theorem twins_walk (w : World) (pins : Int) {v0 v1 v2 : Value} {s0 s1 s2 : List Stp} (h0 : Sc w v0 s0) (h1 : Sc w v1 s1) (h2 : Sc w v2 s2) :
    Calls Try.prog 6 #[.int .i64 pins, v0, v1, v2] w fun e w' => e = .returned (.bool true) ∧ Fr w w' (fun _ => False) := by
  have H0 := hid h0
  have H1 := hid h1
  have H2 := hid h2
  obtain ⟨a0, c0, rfl, _⟩ := h0
  obtain ⟨a1, c1, rfl, _⟩ := h1
  obtain ⟨a2, c2, rfl, _⟩ := h2
  by_cases t1 : (3000 : Int) < (s0.length : Int)
  · go_enter Try.func6, Try.ntmps6
    go_wp2_with fail
    refine (known_any w).mono ?_
    rintro e w1 ⟨rfl, hf1⟩
    have HF := hid hf1
    clear hf1
    go_wp2_with fail
    go_ret
    exact ⟨rfl, HF.out⟩
  by_cases t2 : (3000 : Int) < (s1.length : Int)
  · go_enter Try.func6, Try.ntmps6
    go_wp2_with fail
    refine (known_any w).mono ?_
    rintro e w1 ⟨rfl, hf1⟩
    have HF := hid hf1
    clear hf1
    go_wp2_with fail
    go_ret
    exact ⟨rfl, HF.out⟩
  by_cases t3 : (3000 : Int) < (s2.length : Int)
  · go_enter Try.func6, Try.ntmps6
    go_wp2_with fail
    refine (known_any w).mono ?_
    rintro e w1 ⟨rfl, hf1⟩
    have HF := hid hf1
    clear hf1
    go_wp2_with fail
    go_ret
    exact ⟨rfl, HF.out⟩
  by_cases t4 : pins < 1
  · go_enter Try.func6, Try.ntmps6
    go_wp2_with fail
    refine (known_any w).mono ?_
    rintro e w1 ⟨rfl, hf1⟩
    have HF := hid hf1
    clear hf1
    go_wp2_with fail
    go_ret
    exact ⟨rfl, HF.out⟩
  by_cases t5 : 64 < pins
  · go_enter Try.func6, Try.ntmps6
    go_wp2_with fail
    refine (known_any w).mono ?_
    rintro e w1 ⟨rfl, hf1⟩
    have HF := hid hf1
    clear hf1
    go_wp2_with fail
    go_ret
    exact ⟨rfl, HF.out⟩
  have HP := hid (show 1 ≤ pins ∧ pins ≤ 64 by omega)
  go_enter Try.func6, Try.ntmps6
  go_wp2_with fail
  refine (known_any w).mono ?_
  rintro e w1 ⟨rfl, hf1⟩
  have HF := hid hf1
  clear hf1
  go_wp2_with fail
  refine (new_any pins HP.out.1 HP.out.2 _).mono ?_
  rintro e w2 ⟨A, rfl, m1, hb1, hlo1, hf2⟩
  have HA : Hid (F1 w w2 A (newB pins)) := by
    have h := ((Fm.none w1 (fun _ => 0) (fun _ => newB pins)).later HF.out).add hb1 hlo1 hf2
    rwa [upd_self] at h
  clear hb1 hlo1 hf2
  go_wp2_with fail
  go_loopg [11] s0.length (fun g s11 wx => ∃ (i : Nat) (b : Bo), s11 = .int .i64 (i : Int) ∧ i + g = s0.length ∧ Hid (F1 w wx A b))
  case atStart => exact ⟨0, _, rfl, by omega, HA⟩
  case round =>
    obtain ⟨i, b, rfl, hg, HFb⟩ := hrel
    clear HA
    cases gk with
    | succ g =>
      have t6 : (i : Int) < (s0.length : Int) := by omega
      obtain ⟨sb, so, cp, ev, ⟨q0, q1, q2, q3, hfit⟩, hbl⟩ := H0.out.at (Fm.fr HFb.out) (show i < s0.length by omega)
      simp only [Value.slice.injEq] at ev
      obtain ⟨rfl, _, rfl⟩ := ev
      have HG := hid hg
      have HS := hid hfit
      generalize s0.getD i st0 = s at *
      clear hg hfit
      go_wp2_with fail
      refine (F1.do HFb.out s HS.out).mono ?_
      rintro e w3 ⟨r, rfl, hd⟩
      have HD := hid hd
      clear hd
      go_wp2_with fail
      go_roundg g
      case rel => exact ⟨i + 1, _, by simp, by have := HG.out; omega, HD⟩
      case measure => omega
    | zero =>
      have t6 : ¬ (i : Int) < (s0.length : Int) := by omega
      clear hg
      go_wp2_with fail
      refine (Fm.ask HFb.out (i := 0) (by omega) rfl (fun m hb => twinM_any hb)).mono ?_
      rintro e w3 ⟨X, rfl, mx, hbx, hlox, hfx⟩
      have HFx := hid (Fm.add HFb.out hbx hlox hfx)
      clear hbx hlox hfx
      go_wp2_with fail
      refine (Fm.ask HFx.out (i := 0) (by omega) rfl (fun m hb => twinM_any hb)).mono ?_
      rintro e w4 ⟨Y, rfl, my, hby, hloy, hfy⟩
      have HFy := hid (Fm.add HFx.out hby hloy hfy)
      clear hby hloy hfy
      go_wp2_with fail
      refine (Fm.ask HFy.out (i := 0) (by omega) rfl (fun m hb => twinM_any hb)).mono ?_
      rintro e w5 ⟨Z, rfl, mz, hbz, hloz, hfz⟩
      have HFz := hid (Fm.add HFy.out hbz hloz hfz)
      clear hbz hloz hfz
      generalize hBs : upd (upd (upd (upd (fun _ => 0) 0 A) 1 X) (1 + 1) Y) (1 + 1 + 1) Z = Bs at HFz
      have HB0 := hid (show Bs 0 = A by rw [← hBs]; rfl)
      have HB1 := hid (show Bs 1 = X by rw [← hBs]; rfl)
      have HB2 := hid (show Bs 2 = Y by rw [← hBs]; rfl)
      have HB3 := hid (show Bs 3 = Z by rw [← hBs]; rfl)
      have HF4 : Hid (F4 w w5 Bs b b b b) := ⟨_, HFz.out, rfl, rfl, rfl, rfl⟩
      clear hBs HFx HFy HFz HFb
      go_wp2_with fail
      go_loopg [15] (max s1.length s2.length) (fun g s15 wx => ∃ i : Nat, s15 = .int .i64 (i : Int) ∧ Hid (i + g = max s1.length s2.length) ∧ Hid (F4 w wx Bs b (runB b (s1.take i)) (runB b (s2.take i)) b))
      case atStart => exact ⟨0, rfl, Nat.zero_add _, HF4⟩
      case round =>
        obtain ⟨i, rfl, HG, HF4⟩ := hrel
        cases gk with
        | succ g =>
          by_cases u1 : (i : Int) < (s1.length : Int)
          · by_cases u2 : (i : Int) < (s2.length : Int)
            · obtain ⟨xsb, xso, xcp, xev, ⟨xq0, xq1, xq2, xq3, xhfit⟩, xhbl⟩ := H1.out.at HF4.out.fr (show i < s1.length by omega)
              simp only [Value.slice.injEq] at xev
              obtain ⟨rfl, _, rfl⟩ := xev
              have xHS := hid xhfit
              generalize xE : s1.getD i st0 = xs at *
              have xHE := hid xE
              clear xhfit xE
              go_wp2_with fail
              refine (F4.do1 HF4.out HB1.out xs xHS.out).mono ?_
              rintro e w10 ⟨r10, rfl, hd⟩
              have HF4 := hid hd
              clear hd
              obtain ⟨ysb, yso, ycp, yev, ⟨yq0, yq1, yq2, yq3, yhfit⟩, yhbl⟩ := H2.out.at HF4.out.fr (show i < s2.length by omega)
              simp only [Value.slice.injEq] at yev
              obtain ⟨rfl, _, rfl⟩ := yev
              have yHS := hid yhfit
              generalize yE : s2.getD i st0 = ys at *
              have yHE := hid yE
              clear yhfit yE
              go_wp2_with fail
              refine (F4.do2 HF4.out HB2.out ys yHS.out).mono ?_
              rintro e w11 ⟨r11, rfl, hd⟩
              have HF4 := hid hd
              clear hd
              go_wp2_with fail
              go_roundg g
              case rel =>
                refine ⟨i + 1, by simp, by show _ = _; have := HG.out; omega, ?_⟩
                have h := HF4.out
                rw [← xHE.out, ← runB_take b s1 (show i < s1.length by omega)] at h
                rw [← yHE.out, ← runB_take b s2 (show i < s2.length by omega)] at h
                exact h
              case measure => omega
            · obtain ⟨xsb, xso, xcp, xev, ⟨xq0, xq1, xq2, xq3, xhfit⟩, xhbl⟩ := H1.out.at HF4.out.fr (show i < s1.length by omega)
              simp only [Value.slice.injEq] at xev
              obtain ⟨rfl, _, rfl⟩ := xev
              have xHS := hid xhfit
              generalize xE : s1.getD i st0 = xs at *
              have xHE := hid xE
              clear xhfit xE
              go_wp2_with fail
              refine (F4.do1 HF4.out HB1.out xs xHS.out).mono ?_
              rintro e w10 ⟨r10, rfl, hd⟩
              have HF4 := hid hd
              clear hd
              go_wp2_with fail
              go_roundg g
              case rel =>
                refine ⟨i + 1, by simp, by show _ = _; have := HG.out; omega, ?_⟩
                have h := HF4.out
                rw [← xHE.out, ← runB_take b s1 (show i < s1.length by omega)] at h
                rw [runB_full b s2 (show s2.length ≤ i by omega), ← runB_full b s2 (show s2.length ≤ i + 1 by omega)] at h
                exact h
              case measure => omega
          · have u2 : (i : Int) < (s2.length : Int) := by have := HG.out; omega
            obtain ⟨ysb, yso, ycp, yev, ⟨yq0, yq1, yq2, yq3, yhfit⟩, yhbl⟩ := H2.out.at HF4.out.fr (show i < s2.length by omega)
            simp only [Value.slice.injEq] at yev
            obtain ⟨rfl, _, rfl⟩ := yev
            have yHS := hid yhfit
            generalize yE : s2.getD i st0 = ys at *
            have yHE := hid yE
            clear yhfit yE
            go_wp2_with fail
            refine (F4.do2 HF4.out HB2.out ys yHS.out).mono ?_
            rintro e w11 ⟨r11, rfl, hd⟩
            have HF4 := hid hd
            clear hd
            go_wp2_with fail
            go_roundg g
            case rel =>
              refine ⟨i + 1, by simp, by show _ = _; have := HG.out; omega, ?_⟩
              have h := HF4.out
              rw [runB_full b s1 (show s1.length ≤ i by omega), ← runB_full b s1 (show s1.length ≤ i + 1 by omega)] at h
              rw [← yHE.out, ← runB_take b s2 (show i < s2.length by omega)] at h
              exact h
            case measure => omega
        | zero =>
          have u1 : ¬ (i : Int) < (s1.length : Int) := by have := HG.out; omega
          have u2 : ¬ (i : Int) < (s2.length : Int) := by have := HG.out; omega
          have HI := hid (show s1.length ≤ i ∧ s2.length ≤ i by omega)
          have HF4 : Hid (F4 w wr Bs b (runB b s1) (runB b s2) b) := by
            have h := HF4.out
            rwa [runB_full b s1 HI.out.1, runB_full b s2 HI.out.2] at h
          go_wp2_with fail
          obtain ⟨st, hst, e0, e1, e2, e3⟩ := HF4.out
          refine (fm_alike hst (i := 0) (j := 3) (by omega) (by omega) HB0.out HB3.out (by rw [e0, e3])).mono ?_
          rintro e w6 ⟨rfl, hf⟩
          have HF4 := hid (HF4.out.step hf)
          clear hf hst e0 e1 e2 e3
          go_wp2_with fail
          go_loopg [16] s1.length (fun g s16 wx => ∃ i : Nat, s16 = .int .i64 (i : Int) ∧ i + g = s1.length ∧ Hid (F4 w wx Bs (runB b (s1.take i)) (runB b s1) (runB b s2) b))
          case atStart => exact ⟨0, rfl, Nat.zero_add _, HF4⟩
          case round =>
            obtain ⟨k, rfl, hk, HF4⟩ := hrel
            cases gk with
            | succ g =>
              have u3 : (k : Int) < (s1.length : Int) := by omega
              have HK := hid hk
              obtain ⟨xsb, xso, xcp, xev, ⟨xq0, xq1, xq2, xq3, xhfit⟩, xhbl⟩ := H1.out.at HF4.out.fr (show k < s1.length by omega)
              simp only [Value.slice.injEq] at xev
              obtain ⟨rfl, _, rfl⟩ := xev
              have xHS := hid xhfit
              generalize xE : s1.getD k st0 = xs at *
              have xHE := hid xE
              clear xhfit xE
              go_wp2_with fail
              refine (F4.do0 HF4.out HB0.out xs xHS.out).mono ?_
              rintro e w12 ⟨r12, rfl, hd⟩
              have HF4 := hid hd
              clear hd
              go_wp2_with fail
              go_roundg g
              case rel =>
                refine ⟨k + 1, by simp, by have := HK.out; omega, ?_⟩
                have h := HF4.out
                rw [← xHE.out, ← runB_take b s1 (show k < s1.length by have := HK.out; omega)] at h
                exact h
              case measure => omega
            | zero =>
              have u3 : ¬ (k : Int) < (s1.length : Int) := by omega
              have HF4 : Hid (F4 w wr Bs (runB b s1) (runB b s1) (runB b s2) b) := by
                have h := HF4.out
                rwa [runB_full b s1 (show s1.length ≤ k by omega)] at h
              clear hk
              go_wp2_with fail
              go_loopg [17] s2.length (fun g s17 wx => ∃ i : Nat, s17 = .int .i64 (i : Int) ∧ i + g = s2.length ∧ Hid (F4 w wx Bs (runB b s1) (runB b s1) (runB b s2) (runB b (s2.take i))))
              case atStart => exact ⟨0, rfl, Nat.zero_add _, HF4⟩
              case round =>
                obtain ⟨l, rfl, hl, HF4⟩ := hrel
                cases gk with
                | succ g =>
                  have u4 : (l : Int) < (s2.length : Int) := by omega
                  have HK := hid hl
                  obtain ⟨xsb, xso, xcp, xev, ⟨xq0, xq1, xq2, xq3, xhfit⟩, xhbl⟩ := H2.out.at HF4.out.fr (show l < s2.length by omega)
                  simp only [Value.slice.injEq] at xev
                  obtain ⟨rfl, _, rfl⟩ := xev
                  have xHS := hid xhfit
                  generalize xE : s2.getD l st0 = xs at *
                  have xHE := hid xE
                  clear xhfit xE
                  go_wp2_with fail
                  refine (F4.do3 HF4.out HB3.out xs xHS.out).mono ?_
                  rintro e w13 ⟨r13, rfl, hd⟩
                  have HF4 := hid hd
                  clear hd
                  go_wp2_with fail
                  go_roundg g
                  case rel =>
                    refine ⟨l + 1, by simp, by have := HK.out; omega, ?_⟩
                    have h := HF4.out
                    rw [← xHE.out, ← runB_take b s2 (show l < s2.length by have := HK.out; omega)] at h
                    exact h
                  case measure => omega
                | zero =>
                  have u4 : ¬ (l : Int) < (s2.length : Int) := by omega
                  have HF4 : Hid (F4 w wr Bs (runB b s1) (runB b s1) (runB b s2) (runB b s2)) := by
                    have h := HF4.out
                    rwa [runB_full b s2 (show s2.length ≤ l by omega)] at h
                  clear hl
                  go_wp2_with fail
                  obtain ⟨st, hst, e0, e1, e2, e3⟩ := HF4.out
                  refine (fm_alike hst (i := 0) (j := 1) (by omega) (by omega) HB0.out HB1.out (by rw [e0, e1])).mono ?_
                  rintro e w7 ⟨rfl, hf⟩
                  have HF4 := hid (HF4.out.step hf)
                  clear hf hst e0 e1 e2 e3
                  go_wp2_with fail
                  obtain ⟨st, hst, e0, e1, e2, e3⟩ := HF4.out
                  refine (fm_alike hst (i := 3) (j := 2) (by omega) (by omega) HB3.out HB2.out (by rw [e3, e2])).mono ?_
                  rintro e w8 ⟨rfl, hf⟩
                  have HF4 := hid (HF4.out.step hf)
                  clear hf hst e0 e1 e2 e3
                  go_wp2_with fail
                  go_ret
                  exact ⟨rfl, HF4.out.fr⟩
end Go.Proofs.Ytekooeekaigmaaa.E
