/- FlowPlays: the walk, over what told does. -/
import Derived.Test.YtekhpehficabmaaXPlays3
namespace Go.Proofs.Ytekhpehficabmaa
open Go.RowKit

/-- What told does, of every step. -/
def ToldA : Prop := ∀ (w W : World) (B R box : Nat) (s : Ps), PL w W B R box s s [] → Inv s → ∀ sp : Sp, Calls Try.prog 11 #[.pointer (some ⟨B, 0, none⟩), .pointer (some ⟨R, 0, none⟩), vSp sp] W fun e w' => e = .returned (.bool true) ∧ ToldR w w' B R box
set_option maxHeartbeats 8000000 in
theorem plays_of (TA : ToldA) {w : World} {v3 : Value} {rs : List Sp} (n0 n1 n2 : Int) (hs : Sps w v3 rs) : Calls Try.prog 3 #[.int .i64 n0, .int .i64 n1, .int .i64 n2, v3] w fun e w' => e = .returned (.bool true) ∧ Fr w w' (fun _ => False) := by
  have HS := hid hs
  obtain ⟨ao, cap, rfl, hrl, _⟩ := id hs
  clear hs
  by_cases hlong : 5000 < rs.length
  · have u1 : (5000 : Int) < (rs.length : Int) := by omega
    clear hlong
    go_enter Try.func3, Try.ntmps3
    go_wp2_with fail
    refine (known_any _).mono ?_
    rintro e w1 ⟨rfl, hf⟩
    have HF := hid hf
    clear hf
    go_wp2_with fail
    go_ret
    exact ⟨rfl, HF.out⟩
  · have u1 : ¬ (5000 : Int) < (rs.length : Int) := by omega
    have HLL := hid hlong
    clear hlong
    by_cases hok : (1 ≤ n0 ∧ n0 ≤ 8) ∧ (1 ≤ n1 ∧ n1 ≤ 8) ∧ (1 ≤ n2 ∧ n2 ≤ 64)
    case neg =>
      have H1 := hid (fun W => fnew_bad (ns := n0) (no := n1) (box := n2) W hok)
      have H2 := hid (fun W => rnew_bad (ns := n0) (no := n1) (box := n2) W hok)
      clear hok
      go_enter Try.func3, Try.ntmps3
      go_wp2_with fail
      refine (known_any _).mono ?_
      rintro e w1 ⟨rfl, hf⟩
      have HF := hid hf
      clear hf
      go_wp2_with fail
      refine (H1.out _).mono ?_
      rintro e w2 ⟨rfl, hf⟩
      have HF2 := hid (HF.out.trans hf)
      clear hf
      go_wp2_with fail
      refine (H2.out _).mono ?_
      rintro e w3 ⟨rfl, h9⟩
      obtain rfl : w2 = w3 := h9.symm
      clear h9
      go_wp2_with fail
      go_ret
      exact ⟨rfl, HF2.out⟩
    case pos =>
      obtain ⟨⟨a1, a2⟩, ⟨b1, b2⟩, c1, c2⟩ := hok
      obtain ⟨ns, rfl⟩ : ∃ k : Nat, n0 = (k : Int) := ⟨n0.toNat, by omega⟩
      obtain ⟨no, rfl⟩ : ∃ k : Nat, n1 = (k : Int) := ⟨n1.toNat, by omega⟩
      obtain ⟨box, rfl⟩ : ∃ k : Nat, n2 = (k : Int) := ⟨n2.toNat, by omega⟩
      have HN := hid (fun (W : World) (hW : Fr w W (fun _ => False)) => fnew_i (w0 := w) (ns := ns) (no := no) (box := box) W (by omega) (by omega) (by omega) hW)
      have HR := hid (fun W => rnew_ok (ns := ns) (no := no) (box := box) W (by omega) (by omega) (by omega))
      have HTA := hid TA
      clear a1 a2 b1 b2 c1 c2 TA
      go_enter Try.func3, Try.ntmps3
      go_wp2_with fail
      refine (known_any _).mono ?_
      rintro e w1 ⟨rfl, hf⟩
      have HF := hid hf
      clear hf
      go_wp2_with fail
      refine (HN.out _ HF.out).mono ?_
      rintro e w2 ⟨B, rfl, O, hO, _, hf2⟩
      have HO := hid hO
      have HSZ : Hid (w.heap.size ≤ w2.heap.size) := hO.fr.size
      clear hO hf2 HN HF
      go_wp2_with fail
      refine (HR.out _).mono ?_
      rintro e w3 ⟨g, rfl, h4, h5, h6⟩
      have HP : Hid (PL w w3 B g.R box (newP ns no) (newP ns no) []) := ⟨O, g, HO.out.still h6, h4 _, rfl, fun k hk hg => by have h7 := HO.out.lt hk; have h8 := h5 k hg; omega, fun k hg => by have h8 := h5 k hg; have h9 := HSZ.out; omega, fun p hp => by cases hp⟩
      have HI := hid (Inv.new ns no)
      clear h4 h5 h6 HO HR HSZ
      generalize g.R = R at *
      generalize newP ns no = s0 at *
      go_wp2_with fail
      go_loopg [13] rs.length (fun q s13 wx => ∃ (i : Nat) (s : Ps), s13 = .int .i64 (i : Int) ∧ Hid (i + q = rs.length) ∧ Hid (PL w wx B R box s s []) ∧ Hid (Inv s))
      case atStart => exact ⟨0, _, rfl, by show _ = _; omega, HP, HI⟩
      case round =>
        obtain ⟨i, s, rfl, HG, H1, HI1⟩ := hrel
        clear HP HI
        cases gk with
        | zero =>
          have t1 : ¬ (i : Int) < (rs.length : Int) := by have := HG.out; omega
          go_wp2_with fail
          go_ret
          exact ⟨rfl, H1.out.fr⟩
        | succ q =>
          have hi : i < rs.length := by have := HG.out; omega
          have t1 : (i : Int) < (rs.length : Int) := by omega
          obtain ⟨b, off, rfl, p0, p1, p2, p3, p4, p5⟩ := (HS.out.step H1.out.fr).at hi
          have hbl := World.block_lt_of_cell? wr _ p0
          have HT := hid (HTA.out _ _ _ _ _ _ H1.out HI1.out (rs.getD i sp0))
          clear hi H1 HI1
          generalize rs.getD i sp0 = st at *
          obtain ⟨kd, A, x⟩ := st
          simp only [vSp] at p0 p1 p2 p3 p4 p5 HT
          go_wp2_with fail
          refine HT.out.mono ?_
          rintro e w4 ⟨rfl, s2, h2, h3⟩
          have H2 := hid h2
          have H3 := hid h3
          clear h2 h3 p0 p1 p2 p3 p4 p5 hbl
          go_wp2_with fail
          refine (sizes_any H2.out).mono ?_
          rintro e w5 ⟨rfl, h2⟩
          have H5 := hid h2
          clear h2 H2
          go_wp2_with fail
          go_roundg q
          case measure => omega
          case rel => exact ⟨i + 1, s2, by go_num, by have := HG.out; show _ = _; omega, H5, H3⟩
end Go.Proofs.Ytekhpehficabmaa
