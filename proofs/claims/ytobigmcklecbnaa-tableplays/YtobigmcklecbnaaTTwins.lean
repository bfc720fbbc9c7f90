/- TableTwins: the walk. -/
import Derived.Test.YtobigmcklecbnaaTDo
import Derived.Deep.DeepCutAuto
namespace Go.Proofs.Ytobigmcklecbnaa
open Go.RowKit

/-- A script that can be read at a slice. -/
def Sc (w : World) (v : Value) (ss : List Stp) : Prop :=
  ∃ ao cap, v = .slice ao ss.length cap ∧ (ss ≠ [] → ∃ (b off : Nat), ao = some ⟨b, off, none⟩ ∧ ∀ i, i < ss.length → w.cell? ⟨b, off + i * 3, none⟩ = some (.int .i64 (ss.getD i st0).k) ∧ w.cell? ⟨b, off + i * 3 + 1, none⟩ = some (.int .i64 (ss.getD i st0).n) ∧ w.cell? ⟨b, off + i * 3 + 2, none⟩ = some (.string (ss.getD i st0).key) ∧ (ss.getD i st0).key.size ≤ 9223372036854775807)
theorem Sc.fr {w w' : World} {v : Value} {ss : List Stp} (h : Sc w v ss) (hf : Fr w w' (fun _ => False)) : Sc w' v ss := by
  obtain ⟨ao, cap, rfl, hcell⟩ := h
  refine ⟨ao, cap, rfl, fun hne => ?_⟩
  obtain ⟨b, off, rfl, hc⟩ := hcell hne
  refine ⟨b, off, rfl, fun i hi => ?_⟩
  obtain ⟨h0, h1, h2, h3⟩ := hc i hi
  have hlt := World.block_lt_of_cell? w _ h0
  have hr := (fr_rules hf).1 b
  exact ⟨by rw [hr _ hlt]; exact h0, by rw [hr _ hlt]; exact h1, by rw [hr _ hlt]; exact h2, h3⟩
/-- The i-th step's cells, in a world of the law's. -/
theorem Sc.cells {w0 W : World} {ao : Option Addr} {cap : Nat} {ss : List Stp} (h : Sc w0 (.slice ao ss.length cap) ss) (hf : Fr w0 W (fun _ => False)) {i : Nat} (hi : i < ss.length) : ∃ b off, ao = some ⟨b, off, none⟩ ∧ b < W.heap.size ∧ W.cell? ⟨b, off + i * 3, none⟩ = some (.int .i64 (ss.getD i st0).k) ∧ W.cell? ⟨b, off + i * 3 + 1, none⟩ = some (.int .i64 (ss.getD i st0).n) ∧ W.cell? ⟨b, off + i * 3 + 2, none⟩ = some (.string (ss.getD i st0).key) ∧ (ss.getD i st0).key.size ≤ 9223372036854775807 := by
  obtain ⟨ao', cap', e, hc⟩ := h.fr hf
  simp only [Value.slice.injEq] at e
  obtain ⟨rfl, _, rfl⟩ := e
  obtain ⟨b, off, rfl, hd⟩ := hc (by rintro rfl; simp at hi)
  obtain ⟨h0, h1, h2, h3⟩ := hd i hi
  exact ⟨b, off, rfl, World.block_lt_of_cell? W _ h0, h0, h1, h2, h3⟩
theorem ptr_nil (W : World) (B : Nat) : (binOp .eql 31 (.pointer (some ⟨B, 0, none⟩)) (.pointer none)).run Try.prog W = .ok (.bool false) W := by kernel_rfl

set_option maxHeartbeats 1000000 in
set_option maxRecDepth 100000 in
theorem twins_walk (w : World) {v0 v1 v2 : Value} {xs ys zs : List Stp} (h0 : Sc w v0 xs) (h1 : Sc w v1 ys) (h2 : Sc w v2 zs) : Calls Try.prog 8 #[v0, v1, v2] w fun e w' => e = .returned (.bool true) ∧ Fr w w' (fun _ => False) := by
  have H0 := hid h0
  have H1 := hid h1
  have H2 := hid h2
  have hpn := ptr_nil
  obtain ⟨a0, c0, rfl, _⟩ := h0
  obtain ⟨a1, c1, rfl, _⟩ := h1
  obtain ⟨a2, c2, rfl, _⟩ := h2
  by_cases q0 : (3000 : Int) < (xs.length : Int)
  · go_enter Try.func8, Try.ntmps8
    go_wp2_with fail
    refine (known_any _).mono ?_
    rintro e w1 ⟨rfl, hf1⟩
    have HF1 := hid hf1
    clear hf1
    go_wp2_with fail
    go_ret
    exact ⟨rfl, HF1.out⟩
  by_cases q1 : (3000 : Int) < (ys.length : Int)
  · go_enter Try.func8, Try.ntmps8
    go_wp2_with fail
    refine (known_any _).mono ?_
    rintro e w1 ⟨rfl, hf1⟩
    have HF1 := hid hf1
    clear hf1
    go_wp2_with fail
    go_ret
    exact ⟨rfl, HF1.out⟩
  by_cases q2 : (3000 : Int) < (zs.length : Int)
  · go_enter Try.func8, Try.ntmps8
    go_wp2_with fail
    refine (known_any _).mono ?_
    rintro e w1 ⟨rfl, hf1⟩
    have HF1 := hid hf1
    clear hf1
    go_wp2_with fail
    go_ret
    exact ⟨rfl, HF1.out⟩
  have n0 : xs.length ≤ 3000 := by omega
  have n1 : ys.length ≤ 3000 := by omega
  have n2 : zs.length ≤ 3000 := by omega
  go_enter Try.func8, Try.ntmps8
  go_wp2_with fail
  refine (known_any _).mono ?_
  rintro e w1 ⟨rfl, hf1⟩
  have HF1 := hid hf1
  clear hf1
  go_wp2_with fail
  refine (fnew w w1 HF1.out).mono ?_
  rintro e w2 ⟨rfl, hF2⟩
  have HFm := hid hF2
  clear hF2 HF1
  generalize w1.heap.size + 1 = b0 at *
  go_wp2_with fail
  go_loopg [8] xs.length (fun gk s8 wx => ∃ (i : Nat) (T : Nat → Tb), s8 = .int .i64 (i : Int) ∧ i + gk = xs.length ∧ Hid (Fam w wx 1 (fun _ => b0) T) ∧ Hid (T 0 = runT (newT zI) (xs.take i)))
  case atStart => exact ⟨0, _, rfl, by omega, HFm, rfl⟩
  case round =>
    obtain ⟨i, T, rfl, hg, HF, HT⟩ := hrel
    clear HFm
    have hlt : b0 < wr.heap.size := HF.out.lt 0 (by omega)
    cases gk with
    | succ f =>
      have hi : i < xs.length := by omega
      have t1 : (i : Int) < (xs.length : Int) := by omega
      have t0 : (0 : Int) ≤ (i : Int) := by omega
      have HG := hid hg
      clear hg
      obtain ⟨b, off, e1, hbl, d0, d1, d2, d3⟩ := H0.out.cells HF.out.fr hi
      subst e1
      have HDo := hid (do_any HF.out 0 (by omega) (xs.getD i st0) i (by omega) (by rw [HT.out]; have := Sz.new.run (xs.take i); rw [List.length_take, show 0 + min i xs.length = i by omega] at this; exact this) d3 b0 rfl)
      have HSn := hid (runT_snoc (newT zI) xs i hi)
      generalize xs.getD i st0 = s at *
      obtain ⟨sk, sn, key⟩ := s
      dsimp only at d0 d1 d2 HDo
      clear d3
      go_wp2_with fail
      refine HDo.out.mono ?_
      rintro e w3 ⟨rfl, hF3⟩
      have HF3 := hid hF3
      clear hF3
      go_wp2_with fail
      go_roundg f
      case measure => omega
      case rel => exact ⟨i + 1, _, by go_num, by have := HG.out; omega, HF3, by show (if 0 = 0 then _ else _) = _; rw [if_pos rfl, HT.out, HSn.out]⟩
    | zero =>
      have t1 : ¬ (i : Int) < (xs.length : Int) := by omega
      have HTx : Hid (T 0 = runT (newT zI) xs) := by
        have h5 := HT.out
        rw [List.take_of_length_le (by omega)] at h5
        exact h5
      have HZ : Hid (Sz (runT (newT zI) xs) xs.length) := by
        have := Sz.new.run xs
        rw [Nat.zero_add] at this
        exact this
      clear hg HT
      generalize runT (newT zI) xs = X at *
      go_wp2_with fail
      refine (ftwin HF.out 0 (by omega) b0 rfl).mono ?_
      rintro e w3 ⟨b1, rfl, hF3⟩
      have HF3 := hid hF3
      clear hF3
      go_wp2_with fail
      refine (ftwin HF3.out 0 (by omega) b0 rfl).mono ?_
      rintro e w4 ⟨b2, rfl, hF4⟩
      have HF4 := hid hF4
      clear hF4
      go_wp2_with fail
      refine (ftwin HF4.out 0 (by omega) b0 rfl).mono ?_
      rintro e w5 ⟨b3, rfl, hF5⟩
      have HF5 : Hid (∃ T : Nat → Tb, Fam w w5 4 (upd (upd (upd (fun _ => b0) 1 b1) 2 b2) 3 b3) T ∧ T 0 = X ∧ T 1 = X ∧ T 2 = X ∧ T 3 = X) := ⟨_, hF5, by simp [upd, HTx.out], by simp [upd, HTx.out], by simp [upd, HTx.out], by simp [upd, HTx.out]⟩
      have HB : Hid ((upd (upd (upd (fun _ => b0) 1 b1) 2 b2) 3 b3) 0 = b0 ∧ (upd (upd (upd (fun _ => b0) 1 b1) 2 b2) 3 b3) 1 = b1 ∧ (upd (upd (upd (fun _ => b0) 1 b1) 2 b2) 3 b3) 2 = b2 ∧ (upd (upd (upd (fun _ => b0) 1 b1) 2 b2) 3 b3) 3 = b3) := ⟨by simp [upd], by simp [upd], by simp [upd], by simp [upd]⟩
      clear hF5 HF4 HF3 HF HTx
      generalize (upd (upd (upd (fun _ => b0) 1 b1) 2 b2) 3 b3) = B at *
      have hlt0 := HB.out.1
      go_wp2_with fail
      go_loopg [12] (max ys.length zs.length) (fun gk s12 wx => ∃ (i : Nat) (T : Nat → Tb), s12 = .int .i64 (i : Int) ∧ Hid (i + gk = max ys.length zs.length) ∧ Hid (Fam w wx 4 B T) ∧ Hid (T 0 = X ∧ T 1 = runT X (ys.take i) ∧ T 2 = runT X (zs.take i) ∧ T 3 = X))
      case atStart =>
        obtain ⟨T, hF, e0, e1, e2, e3⟩ := HF5.out
        exact ⟨0, T, rfl, by show 0 + _ = _; omega, hF, e0, e1, e2, e3⟩
      case round =>
        obtain ⟨i, T, rfl, HG, HF, HT⟩ := hrel
        clear HF5
        have hl1 : b1 < wr.heap.size := by have := HF.out.lt 1 (by omega); rw [HB.out.2.1] at this; exact this
        have hl2 : b2 < wr.heap.size := by have := HF.out.lt 2 (by omega); rw [HB.out.2.2.1] at this; exact this
        have t0 : (0 : Int) ≤ (i : Int) := by omega
        cases gk with
        | succ f =>
          have hmx : i < max ys.length zs.length := by have := HG.out; omega
          by_cases hy : i < ys.length
          · have ty : (i : Int) < (ys.length : Int) := by omega
            obtain ⟨bp, offp, ep, hblp, d0p, d1p, d2p, d3p⟩ := H1.out.cells HF.out.fr (show i < ys.length by omega)
            subst ep
            have HSnp := hid (runT_snoc X ys i (by omega))
            have HSzp : Hid (Sz (runT X (ys.take i)) (xs.length + i)) := by
              have h6 := HZ.out.run (ys.take i)
              rw [List.length_take, show min i ys.length = i by omega] at h6
              exact h6
            have hksp := d3p
            generalize hsp : ys.getD i st0 = sp at *
            clear hsp d3p
            obtain ⟨skp, snp, keyp⟩ := sp
            dsimp only at d0p d1p d2p hksp
            have HDy := hid (do_any HF.out 1 (by omega) ⟨skp, snp, keyp⟩ (xs.length + i) (by omega) (by rw [HT.out.2.1]; exact HSzp.out) hksp b1 HB.out.2.1)
            dsimp only at HDy
            by_cases hz : i < zs.length
            · have tz : (i : Int) < (zs.length : Int) := by omega
              clear hmx
              go_wp2_with fail
              refine HDy.out.mono ?_
              rintro e w6 ⟨rfl, hF6⟩
              have HF6 := hid hF6
              clear hF6 d0p d1p d2p
              obtain ⟨bq, offq, eq', hblq, d0q, d1q, d2q, d3q⟩ := H2.out.cells HF6.out.fr (show i < zs.length by omega)
              subst eq'
              have HSnq := hid (runT_snoc X zs i (by omega))
              have HSzq : Hid (Sz (runT X (zs.take i)) (xs.length + i)) := by
                have h6 := HZ.out.run (zs.take i)
                rw [List.length_take, show min i zs.length = i by omega] at h6
                exact h6
              have hksq := d3q
              generalize hsq : zs.getD i st0 = sq at *
              clear hsq d3q
              obtain ⟨skq, snq, keyq⟩ := sq
              dsimp only at d0q d1q d2q hksq
              have HT2 : Hid (upd T 1 (stepT (T 1) ⟨skp, snp, keyp⟩) 2 = runT X (zs.take i)) := by show (if 2 = 1 then _ else T 2) = _; rw [if_neg (by decide)]; exact HT.out.2.2.1
              have HDz := hid (do_any HF6.out 2 (by omega) ⟨skq, snq, keyq⟩ (xs.length + i) (by omega) (by rw [HT2.out]; exact HSzq.out) hksq b2 HB.out.2.2.1)
              dsimp only at HDz
              have hl2' : b2 < w6.heap.size := by have := HF6.out.lt 2 (by omega); rw [HB.out.2.2.1] at this; exact this
              go_wp2_with fail
              refine HDz.out.mono ?_
              rintro e w7 ⟨rfl, hF7⟩
              have HF7 := hid hF7
              clear hF7
              go_wp2_with fail
              go_roundg f
              case measure => omega
              case rel =>
                refine ⟨i + 1, _, by go_num, by have := HG.out; show i + 1 + f = _; omega, HF7, ?_, ?_, ?_, ?_⟩
                · simp only [upd]; exact HT.out.1
                · simp only [upd]; rw [HSnp.out, ← HT.out.2.1]; rfl
                · rw [HSnq.out, ← HT2.out]; simp only [upd]; rfl
                · simp only [upd]; exact HT.out.2.2.2
            · have tz : ¬ (i : Int) < (zs.length : Int) := by omega
              have HSn2 : Hid (runT X (zs.take (i + 1)) = runT X (zs.take i)) := by show _ = _; rw [List.take_of_length_le (by omega), List.take_of_length_le (by omega)]
              clear hmx
              go_wp2_with fail
              refine HDy.out.mono ?_
              rintro e w6 ⟨rfl, hF6⟩
              have HF6 := hid hF6
              clear hF6
              go_wp2_with fail
              go_roundg f
              case measure => omega
              case rel =>
                refine ⟨i + 1, _, by go_num, by have := HG.out; show i + 1 + f = _; omega, HF6, ?_, ?_, ?_, ?_⟩
                · simp only [upd]; exact HT.out.1
                · simp only [upd]; rw [HSnp.out, ← HT.out.2.1]; rfl
                · simp only [upd]; rw [HSn2.out]; exact HT.out.2.2.1
                · simp only [upd]; exact HT.out.2.2.2
          · have ty : ¬ (i : Int) < (ys.length : Int) := by omega
            have hz : i < zs.length := by omega
            have tz : (i : Int) < (zs.length : Int) := by omega
            have HSn1 : Hid (runT X (ys.take (i + 1)) = runT X (ys.take i)) := by show _ = _; rw [List.take_of_length_le (by omega), List.take_of_length_le (by omega)]
            obtain ⟨bq, offq, eq', hblq, d0q, d1q, d2q, d3q⟩ := H2.out.cells HF.out.fr (show i < zs.length by omega)
            subst eq'
            have HSnq := hid (runT_snoc X zs i (by omega))
            have HSzq : Hid (Sz (runT X (zs.take i)) (xs.length + i)) := by
              have h6 := HZ.out.run (zs.take i)
              rw [List.length_take, show min i zs.length = i by omega] at h6
              exact h6
            have hksq := d3q
            generalize hsq : zs.getD i st0 = sq at *
            clear hsq d3q
            obtain ⟨skq, snq, keyq⟩ := sq
            dsimp only at d0q d1q d2q hksq
            have HDz := hid (do_any HF.out 2 (by omega) ⟨skq, snq, keyq⟩ (xs.length + i) (by omega) (by rw [HT.out.2.2.1]; exact HSzq.out) hksq b2 HB.out.2.2.1)
            dsimp only at HDz
            clear hmx
            go_wp2_with fail
            refine HDz.out.mono ?_
            rintro e w6 ⟨rfl, hF6⟩
            have HF6 := hid hF6
            clear hF6
            go_wp2_with fail
            go_roundg f
            case measure => omega
            case rel =>
              refine ⟨i + 1, _, by go_num, by have := HG.out; show i + 1 + f = _; omega, HF6, ?_, ?_, ?_, ?_⟩
              · simp only [upd]; exact HT.out.1
              · simp only [upd]; rw [HSn1.out]; exact HT.out.2.1
              · simp only [upd]; rw [HSnq.out, ← HT.out.2.2.1]; rfl
              · simp only [upd]; exact HT.out.2.2.2
        | zero =>
          have ty : ¬ (i : Int) < (ys.length : Int) := by have := HG.out; omega
          have tz : ¬ (i : Int) < (zs.length : Int) := by have := HG.out; omega
          have HTx : Hid (T 0 = X ∧ T 1 = runT X ys ∧ T 2 = runT X zs ∧ T 3 = X) := by
            have h5 := HT.out
            have := HG.out
            rw [List.take_of_length_le (by omega), List.take_of_length_le (by omega)] at h5
            exact h5
          clear HT
          go_wp2_with fail
          refine (falike HF.out 0 3 (by omega) (by omega) (by rw [HTx.out.1, HTx.out.2.2.2]) b0 b3 HB.out.1 HB.out.2.2.2).mono ?_
          rintro e w6 ⟨rfl, hF6⟩
          have HF6 := hid hF6
          clear hF6 HF
          go_wp2_with fail
          go_loopg [13] ys.length (fun gk sS wx => ∃ (i : Nat) (T : Nat → Tb), sS = .int .i64 (i : Int) ∧ i + gk = ys.length ∧ Hid (Fam w wx 4 B T) ∧ Hid (T 0 = runT X (ys.take i) ∧ T 1 = runT X ys ∧ T 2 = runT X zs ∧ T 3 = X))
          case atStart => exact ⟨0, _, rfl, by omega, HF6, ⟨HTx.out.1, HTx.out.2.1, HTx.out.2.2.1, HTx.out.2.2.2⟩⟩
          case round =>
            obtain ⟨i, T, rfl, hg, HF, HT⟩ := hrel
            have hl : b0 < wr.heap.size := by have := HF.out.lt 0 (by omega); rw [HB.out.1] at this; exact this
            have t0 : (0 : Int) ≤ (i : Int) := by omega
            cases gk with
            | succ f =>
              have hi : i < ys.length := by omega
              have t1 : (i : Int) < (ys.length : Int) := by omega
              have HG := hid hg
              clear hg
              obtain ⟨bp, offp, ep, hblp, d0p, d1p, d2p, d3p⟩ := H1.out.cells HF.out.fr hi
              subst ep
              have HSnp := hid (runT_snoc X ys i hi)
              have HSzp : Hid (Sz (runT X (ys.take i)) (xs.length + i)) := by
                have h6 := HZ.out.run (ys.take i)
                rw [List.length_take, show min i ys.length = i by omega] at h6
                exact h6
              have hksp := d3p
              generalize hsp : ys.getD i st0 = sp at *
              clear hsp d3p
              obtain ⟨skp, snp, keyp⟩ := sp
              dsimp only at d0p d1p d2p hksp
              have HDp := hid (do_any HF.out 0 (by omega) ⟨skp, snp, keyp⟩ (xs.length + i) (by omega) (by rw [HT.out.1]; exact HSzp.out) hksp b0 HB.out.1)
              dsimp only at HDp
              go_wp2_with fail
              refine HDp.out.mono ?_
              rintro e w7 ⟨rfl, hF7⟩
              have HF7 := hid hF7
              clear hF7
              go_wp2_with fail
              go_roundg f
              case measure => omega
              case rel =>
                refine ⟨i + 1, _, by go_num, by have := HG.out; omega, HF7, ?_, ?_⟩
                · simp only [upd]; rw [HSnp.out, ← HT.out.1]; rfl
                · simp only [upd]; exact HT.out.2
            | zero =>
              have t1 : ¬ (i : Int) < (ys.length : Int) := by omega
              have HTx : Hid (T 0 = runT X ys ∧ T 1 = runT X ys ∧ T 2 = runT X zs ∧ T 3 = X) := by
                have h5 := HT.out
                rw [List.take_of_length_le (by omega)] at h5
                exact h5
              clear HT hg
              go_wp2_with fail
              go_loopg [14] zs.length (fun gk sS wx => ∃ (i : Nat) (T : Nat → Tb), sS = .int .i64 (i : Int) ∧ i + gk = zs.length ∧ Hid (Fam w wx 4 B T) ∧ Hid (T 3 = runT X (zs.take i) ∧ T 0 = runT X ys ∧ T 1 = runT X ys ∧ T 2 = runT X zs))
              case atStart => exact ⟨0, _, rfl, by omega, HF, ⟨HTx.out.2.2.2, HTx.out.1, HTx.out.2.1, HTx.out.2.2.1⟩⟩
              case round =>
                obtain ⟨i, T, rfl, hg, HF, HT⟩ := hrel
                have hl : b3 < wr.heap.size := by have := HF.out.lt 3 (by omega); rw [HB.out.2.2.2] at this; exact this
                have t0 : (0 : Int) ≤ (i : Int) := by omega
                cases gk with
                | succ f =>
                  have hi : i < zs.length := by omega
                  have t1 : (i : Int) < (zs.length : Int) := by omega
                  have HG := hid hg
                  clear hg
                  obtain ⟨bp, offp, ep, hblp, d0p, d1p, d2p, d3p⟩ := H2.out.cells HF.out.fr hi
                  subst ep
                  have HSnp := hid (runT_snoc X zs i hi)
                  have HSzp : Hid (Sz (runT X (zs.take i)) (xs.length + i)) := by
                    have h6 := HZ.out.run (zs.take i)
                    rw [List.length_take, show min i zs.length = i by omega] at h6
                    exact h6
                  have hksp := d3p
                  generalize hsp : zs.getD i st0 = sp at *
                  clear hsp d3p
                  obtain ⟨skp, snp, keyp⟩ := sp
                  dsimp only at d0p d1p d2p hksp
                  have HDp := hid (do_any HF.out 3 (by omega) ⟨skp, snp, keyp⟩ (xs.length + i) (by omega) (by rw [HT.out.1]; exact HSzp.out) hksp b3 HB.out.2.2.2)
                  dsimp only at HDp
                  go_wp2_with fail
                  refine HDp.out.mono ?_
                  rintro e w7 ⟨rfl, hF7⟩
                  have HF7 := hid hF7
                  clear hF7
                  go_wp2_with fail
                  go_roundg f
                  case measure => omega
                  case rel =>
                    refine ⟨i + 1, _, by go_num, by have := HG.out; omega, HF7, ?_, ?_⟩
                    · simp only [upd]; rw [HSnp.out, ← HT.out.1]; rfl
                    · simp only [upd]; exact HT.out.2
                | zero =>
                  have t1 : ¬ (i : Int) < (zs.length : Int) := by omega
                  have HTx : Hid (T 3 = runT X zs ∧ T 0 = runT X ys ∧ T 1 = runT X ys ∧ T 2 = runT X zs) := by
                    have h5 := HT.out
                    rw [List.take_of_length_le (by omega)] at h5
                    exact h5
                  clear HT hg
                  go_wp2_with fail
                  refine (falike HF.out 0 1 (by omega) (by omega) (by rw [HTx.out.2.1, HTx.out.2.2.1]) b0 b1 HB.out.1 HB.out.2.1).mono ?_
                  rintro e w8 ⟨rfl, hF8⟩
                  have HF8 := hid hF8
                  clear hF8
                  go_wp2_with fail
                  refine (falike HF8.out 3 2 (by omega) (by omega) (by rw [HTx.out.1, HTx.out.2.2.2]) b3 b2 HB.out.2.2.2 HB.out.2.2.1).mono ?_
                  rintro e w9 ⟨rfl, hF9⟩
                  have HF9 := hid hF9
                  clear hF9
                  go_wp2_with fail
                  go_ret
                  exact ⟨rfl, HF9.out.fr⟩
end Go.Proofs.Ytobigmcklecbnaa
