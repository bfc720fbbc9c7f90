/- net: the document's net: Heard, Is, Under, New: walks. -/
import Derived.Test.YtljkbnjdciljfaaNRef9
import Derived.BigQuiet
namespace Go.Proofs.Ytljkbnjdciljfaa
open Go.RowKit
attribute [local go_sem ↓] Go.wp_at_zero Go.wp_at_succ

theorem c_none {s : Np} {n : Nat} (h : s.c n = none) : cOf s n = cp0 := by unfold cOf; rw [h]; rfl
set_option maxHeartbeats 4000000 in
set_option maxRecDepth 100000 in
theorem ris_any {W : World} {lo : Nat} {g : Rx} {s : Np} (h : RN W lo g s) (c : Int) : Calls Try.prog 45 #[.pointer (some ⟨g.G, 0, none⟩), .int .i64 c] W fun e w' => e = .returned (.tuple #[.bool (isO s c), .bool (isT s c)]) ∧ Fr W w' (fun _ => False) := by
  have HI := hid (is_any c W)
  cases hc : isC c with
  | false =>
    have h1 : isO s c = false := by unfold isO Np.at; rw [hc]; rfl
    have h2 : isT s c = false := by unfold isT Np.at; rw [hc]; rfl
    rw [h1, h2]
    rw [hc] at HI
    go_enter Try.func45, Try.ntmps45
    go_wp2_with fail
    refine HI.out.mono ?_
    rintro e w1 ⟨rfl, h9⟩
    obtain rfl : W = w1 := h9.symm
    clear h9
    go_wp2
    go_ret2
    exact ⟨rfl, Fr.refl _ _⟩
  | true =>
    rw [hc] at HI
    obtain ⟨n, rfl, hn1, hn2⟩ := isC_nat hc
    obtain ⟨-, -, g2, -, -, gl⟩ := h.cells
    obtain ⟨c0, c1, c2, ⟨a3, k3, a4, k4, a5, k5, a6, k6, c3, c4, c5, c6, -⟩, -, hl⟩ := h.co (n := n) (by omega)
    have t0 : (0 : Int) ≤ (n : Int) := by omega
    have t1 : (n : Int) < 65 := by omega
    have e1 : isO s n = ((s.c n).isSome && !(cOf s n).cl && !(cOf s n).ct) := by
      unfold isO
      rw [at_of hc]
      cases hx : s.c n with
      | none => rfl
      | some x => rw [c_of hx]; simp [Cp.shut]
    have e2 : isT s n = (cOf s n).ct := by
      unfold isT
      rw [at_of hc]
      cases hx : s.c n with
      | none => rw [c_none hx]; rfl
      | some x => rw [c_of hx]
    rw [e1, e2]
    clear h hc e1 e2
    generalize (s.c n).isSome = th at *
    generalize (cOf s n).cl = b1 at *
    generalize (cOf s n).ct = b2 at *
    generalize (cOf s n).w.length = l3 at *
    generalize (cOf s n).i.length = l4 at *
    generalize (cOf s n).o.length = l5 at *
    generalize (cOf s n).h.length = l6 at *
    have HF := hid (alloc_fr W (.cells #[.bool th, .bool b1, .bool b2, .slice a3 l3 k3, .slice a4 l4 k4, .slice a5 l5 k5, .slice a6 l6 k6] 99) (fun _ => False))
    have HB := hid (Bx7.new W (.bool th) (.bool b1) (.bool b2) (.slice a3 l3 k3) (.slice a4 l4 k4) (.slice a5 l5 k5) (.slice a6 l6 k6))
    cases th <;> cases b1 <;> cases b2
    all_goals
      go_enter Try.func45, Try.ntmps45
      go_wp2_with fail
      refine HI.out.mono ?_
      rintro e w1 ⟨rfl, h9⟩
      obtain rfl : W = w1 := h9.symm
      clear h9
      go_upto_region 4 with fail
      obtain ⟨x0, x1, x2, -, -, -, -, xl, -⟩ := HB.out.cells
      have HF9 := hid HF.out
      clear HF HB
      generalize W.alloc _ = w2 at *
      go_quiet (fail)
      go_wp2
      go_ret2
      exact ⟨rfl, HF9.out.drewN _⟩
end Go.Proofs.Ytljkbnjdciljfaa
