/- TablePlays: the walk. -/
import Derived.Test.YtobigmcklecbnaaRTold2
namespace Go.Proofs.Ytobigmcklecbnaa
open Go.RowKit

theorem ptwin {w0 W : World} {B C : Nat} {T R : Tb} (h : Pt w0 W B C T R) :
    Calls Try.prog 19 #[.pointer (some ⟨B, 0, none⟩)] W fun e w' => ∃ B', e = .returned (.pointer (some ⟨B', 0, none⟩)) ∧ Pt w0 w' B' C T R := by
  obtain ⟨gr, ge, hr, he, h1, h2, h3, h4, h5⟩ := h.ex
  refine (twin_any W h1).mono ?_
  rintro e w' ⟨B', gr', ge', rfl, hT, hN, hf⟩
  have hs := h.fr.size
  exact ⟨B', rfl, h.fr.trans hf, gr', ge', hr, he, hT, h2.step hf, fun b hb => Nat.le_trans hs (hN b hb), h4, fun b hb e => by have := hN b hb; have := rbl_lt h2 e; omega⟩
theorem pnew {w0 W : World} (hf0 : Fr w0 W (fun _ => False)) {B gr : Nat} {T : Tb} (h : TbAt W B gr none T) (hb : w0.heap.size ≤ B ∧ w0.heap.size ≤ gr) :
    Calls Try.prog 18 #[] W fun e w' => e = .returned (.pointer (some ⟨W.heap.size + 1, 0, none⟩)) ∧ Pt w0 w' B (W.heap.size + 1) T (newT zI) := by
  refine (rnew_any W).mono ?_
  rintro e w' ⟨rfl, hT, hf, _⟩
  have hs := hf0.size
  refine ⟨rfl, hf0.trans hf, gr, none, W.heap.size, none, h.step hf, hT, ?_, ?_, ?_⟩
  · rintro b (e | e | e)
    · rw [e]; exact hb.1
    · rw [e]; exact hb.2
    · cases e
  · rintro b (e | e | e)
    · omega
    · omega
    · cases e
  · intro b h1 h2
    have := bl_lt h h1
    rcases h2 with e | e | e
    · omega
    · omega
    · cases e
theorem Pt.ltB {w0 W : World} {B C : Nat} {T R : Tb} (h : Pt w0 W B C T R) : B < W.heap.size ∧ C < W.heap.size := by
  obtain ⟨gr, ge, hr, he, h1, h2, _⟩ := h.ex
  exact ⟨h1.lt, h2.lt⟩

set_option maxHeartbeats 2000000 in
set_option maxRecDepth 100000 in
theorem plays_walk (w : World) {v0 : Value} {xs : List Stp} (h0 : Sc w v0 xs) : Calls Try.prog 5 #[v0] w fun e w' => e = .returned (.bool true) ∧ Fr w w' (fun _ => False) := by
  have H0 := hid h0
  have hpn := ptr_nil
  obtain ⟨a0, c0, rfl, _⟩ := h0
  by_cases q0 : (20000 : Int) < (xs.length : Int)
  · go_enter Try.func5, Try.ntmps5
    go_wp2_with fail
    refine (known_any _).mono ?_
    rintro e w1 ⟨rfl, hf1⟩
    have HF1 := hid hf1
    clear hf1
    go_wp2_with fail
    go_ret
    exact ⟨rfl, HF1.out⟩
  go_enter Try.func5, Try.ntmps5
  go_wp2_with fail
  refine (known_any _).mono ?_
  rintro e w1 ⟨rfl, hf1⟩
  have HF1 := hid hf1
  clear hf1
  go_wp2_with fail
  refine (new_any w1).mono ?_
  rintro e w2 ⟨rfl, hT2, hf2, _⟩
  have hs1 := HF1.out.size
  have HN := hid (pnew (w0 := w) (HF1.out.trans hf2) hT2 ⟨by omega, by omega⟩)
  clear hT2 hf2
  go_wp2_with fail
  refine HN.out.mono ?_
  rintro e w3 ⟨rfl, hP⟩
  have HP0 := hid hP
  clear hP HN
  generalize w1.heap.size + 1 = B0 at *
  generalize w2.heap.size + 1 = C at *
  go_wp2_with fail
  go_loopg [3, 5] xs.length (fun gk s3 s5 wx => ∃ (i B : Nat), s3 = .pointer (some ⟨B, 0, none⟩) ∧ s5 = .int .i64 (i : Int) ∧ i + gk = xs.length ∧ Hid (Pt w wx B C (runT (newT zI) (xs.take i)) (runT (newT zI) (xs.take i))))
  case atStart => exact ⟨0, B0, rfl, rfl, by omega, HP0⟩
  case round =>
    obtain ⟨i, B, rfl, rfl, hg, HP⟩ := hrel
    clear HP0
    cases gk with
    | zero =>
      have t1 : ¬ (i : Int) < (xs.length : Int) := by omega
      clear hg
      go_wp2_with fail
      generalize runT (newT zI) (xs.take i) = T at *
      go_loopg [6] xs.length (fun gk s6 wx => ∃ j : Nat, s6 = .int .i64 (j : Int) ∧ j + gk = xs.length ∧ Hid (Pt w wx B C T T))
      case atStart => exact ⟨0, rfl, by omega, HP⟩
      case round =>
        obtain ⟨j, rfl, hg, HPj⟩ := hrel
        clear HP
        cases gk with
        | zero =>
          have t2 : ¬ (j : Int) < (xs.length : Int) := by omega
          clear hg
          go_wp2_with fail
          refine (uall HPj.out).mono ?_
          rintro e w4 ⟨rfl, hf4⟩
          have HF4 := hid (HPj.out.fr.trans hf4)
          clear hf4
          go_wp2_with fail
          go_ret
          exact ⟨rfl, HF4.out⟩
        | succ f =>
          have hj : j < xs.length := by omega
          have t2 : (j : Int) < (xs.length : Int) := by omega
          have t3 : (0 : Int) ≤ (j : Int) := by omega
          have HG := hid hg
          obtain ⟨b, off, rfl, hbl, e0, e1, e2, hks⟩ := H0.out.cells HPj.out.fr hj
          clear hg e0 e1
          generalize (xs.getD j st0).key = key at *
          go_wp2_with fail
          refine (ulike HPj.out key hks).mono ?_
          rintro e w4 ⟨rfl, hf4⟩
          have HP4 := hid (HPj.out.step hf4)
          clear hf4
          go_wp2_with fail
          go_roundg f
          case measure => omega
          case rel => exact ⟨j + 1, by go_num, by have := HG.out; omega, HP4⟩
    | succ f =>
      have hi : i < xs.length := by omega
      have t1 : (i : Int) < (xs.length : Int) := by omega
      have t0 : (0 : Int) ≤ (i : Int) := by omega
      have HG := hid hg
      have HSn := hid (runT_snoc (newT zI) xs i hi)
      have hSz : Sz (runT (newT zI) (xs.take i)) i := by
        have := Sz.new.run (xs.take i)
        rw [List.length_take, Nat.min_eq_left (by omega), Nat.zero_add] at this
        exact this
      have HSz := hid hSz
      have hic : i ≤ 100000 := by omega
      obtain ⟨b, off, rfl, hbl, e0, e1, e2, hks⟩ := H0.out.cells HP.out.fr hi
      have HCl := hid (fun (W : World) (hf : Fr w W (fun _ => False)) => (show b < W.heap.size ∧ W.cell? ⟨b, off + i * 3, none⟩ = some (.int .i64 (xs.getD i st0).k) ∧ W.cell? ⟨b, off + i * 3 + 1, none⟩ = some (.int .i64 (xs.getD i st0).n) ∧ W.cell? ⟨b, off + i * 3 + 2, none⟩ = some (.string (xs.getD i st0).key) from by
        obtain ⟨b', off', eb, z1, z2, z3, z4, _⟩ := H0.out.cells hf hi
        simp only [Option.some.injEq, Addr.mk.injEq, and_true] at eb
        obtain ⟨rfl, rfl⟩ := eb
        exact ⟨z1, z2, z3, z4⟩))
      clear hg hSz
      generalize xs.getD i st0 = s at *
      obtain ⟨sk, sn, key⟩ := s
      dsimp only at e0 e1 e2 hks
      generalize runT (newT zI) (xs.take i) = T at *
      by_cases k6 : sk = 6
      · subst k6
        go_wp2_with fail
        refine (ptwin HP.out).mono ?_
        rintro e w4 ⟨B', rfl, hP4⟩
        have HP4 := hid hP4
        clear hP4 e0 e1 e2 hbl
        obtain ⟨hbl, e0, e1, e2⟩ := HCl.out w4 HP4.out.fr
        go_wp2_with fail
        refine (told_any HP4.out ⟨6, sn, key⟩ i hic HSz.out hks).mono ?_
        rintro e w5 ⟨rfl, hP5⟩
        rw [← HSn.out] at hP5
        have HP5 := hid hP5
        clear hP5
        go_wp2_with fail
        go_roundg f
        case measure => omega
        case rel => exact ⟨i + 1, B', rfl, by go_num, by have := HG.out; omega, HP5⟩
      · have t6 : (sk == 6) = false := by simpa using k6
        clear k6
        go_wp2_with fail
        refine (told_any HP.out ⟨sk, sn, key⟩ i hic HSz.out hks).mono ?_
        rintro e w4 ⟨rfl, hP4⟩
        rw [← HSn.out] at hP4
        have HP4 := hid hP4
        clear hP4
        go_wp2_with fail
        go_roundg f
        case measure => omega
        case rel => exact ⟨i + 1, B, rfl, by go_num, by have := HG.out; omega, HP4⟩
end Go.Proofs.Ytobigmcklecbnaa
