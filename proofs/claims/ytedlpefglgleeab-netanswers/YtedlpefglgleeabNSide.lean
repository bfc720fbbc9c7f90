/- net: the functions of a connection's two sides: walks. -/
import Derived.Test.YtedlpefglgleeabNConn
import Derived.Deep.RegionHeld
namespace Go.Proofs.Ytedlpefglgleeab
open Go.RowKit

def Cp.ok (x : Cp) (a b m : Nat) : Prop := x.i.length ≤ a ∧ x.w.length ≤ 1048576 ∧ x.o.length ≤ b ∧ x.h.length ≤ m
theorem Try.tne : (69 : Nat) ≠ 5 := by decide
theorem cnS {w : World} {lo a b : Nat} {g : Cm} (h : Cn w lo a b g) (i : Nat) (hi : i < 4) : ∃ ao cap, g.v i = .slice ao (g.x.r i).length cap ∧ (g.x.r i).length ≤ cap := by
  obtain ⟨ao, cap, h1, h2, _⟩ := (h.row i hi).shape
  exact ⟨ao, cap, h1, h2⟩
set_option maxHeartbeats 1000000 in
theorem coming_any {w : World} {lo a b : Nat} {g : Cm} (h : Cn w lo a b g) (hl : g.x.w.length ≤ 1048576) (hl2 : g.x.i.length ≤ 1048576) : Calls Try.prog 36 #[.pointer (some ⟨g.k, 0, none⟩)] w fun e w' => e = .returned (.int .i64 ((g.x.w.length + g.x.i.length : Nat) : Int)) ∧ Fr w w' (fun _ => False) := by
  obtain ⟨c0, c1, _, _, _, _, hlt⟩ := h.cells
  obtain ⟨a0, n0, e0, _⟩ := cnS h 0 (by omega)
  obtain ⟨a1, n1, e1, _⟩ := cnS h 1 (by omega)
  change g.v 0 = .slice a0 g.x.i.length n0 at e0
  change g.v 1 = .slice a1 g.x.w.length n1 at e1
  rw [e0] at c0
  rw [e1] at c1
  have E : ((g.x.w.length + g.x.i.length : Nat) : Int) = (g.x.w.length : Int) + (g.x.i.length : Int) := by omega
  rw [E]
  clear h e0 e1 E
  generalize g.x.w.length = lw at *
  generalize g.x.i.length = li at *
  go_enter Try.func36, Try.ntmps36
  go_wp2_with fail
  go_quiet (fail)
  go_wp2_with fail
  go_ret
  exact ⟨rfl, (Fr.refl _ _).drewN _⟩
set_option maxHeartbeats 1000000 in
theorem going_any {w : World} {lo a b : Nat} {g : Cm} (h : Cn w lo a b g) : Calls Try.prog 37 #[.pointer (some ⟨g.k, 4, none⟩)] w fun e w' => e = .returned (.int .i64 (g.x.o.length : Int)) ∧ w' = w := by
  obtain ⟨_, _, c2, _, _, _, hlt⟩ := h.cells
  obtain ⟨a0, n0, e0, _⟩ := cnS h 2 (by omega)
  change g.v 2 = .slice a0 g.x.o.length n0 at e0
  rw [e0] at c2
  clear h e0
  go_enter Try.func37, Try.ntmps37
  go_wp2_with fail
  go_ret
  exact ⟨rfl, rfl⟩
set_option maxHeartbeats 1000000 in
theorem take_any {w : World} {lo a b : Nat} {g : Cm} (h : Cn w lo a b g) : Calls Try.prog 40 #[.pointer (some ⟨g.k, 0, none⟩)] w fun e w' => e = .returned (g.v 0) ∧ BB w' g.k 69 [] [g.v 1, .int .i64 ((1048576 : Nat) : Int), g.v 2, .int .i64 (b : Int), g.v 3, .bool g.x.cl, .bool g.x.ct] (.slice none 0 0) a ∧ Fr w w' (fun k => k = g.k) := by
  obtain ⟨c0, _, _, _, _, _, hlt⟩ := h.cells
  have HE := hid (empty_any h.b0 (o := 0) rfl)
  clear h
  generalize g.v 0 = v0 at *
  go_enter Try.func40, Try.ntmps40
  go_wp2_with fail
  refine HE.out.mono ?_
  rintro e w1 ⟨rfl, h1, h2⟩
  have H := hid (And.intro h1 h2)
  clear h1 h2
  go_wp2_with fail
  go_ret
  exact ⟨rfl, H.out⟩
set_option maxHeartbeats 1000000 in
theorem lose_any {w : World} {lo a b : Nat} {g : Cm} (h : Cn w lo a b g) : Calls Try.prog 47 #[.pointer (some ⟨g.k, 0, none⟩)] w fun e w' => e = .returned (.tuple #[]) ∧ CnA w w' lo a b g { g.x with w := [], i := [] } := by
  have HE := hid (empty_any h.b1 (o := 2) rfl)
  have HL := hid (fun w1 h1 h2 => h.bf1 (w' := w1) (bfa_empty h1 h2))
  have HE2 := hid (fun w1 (g' : Cm) (h : Cn w1 lo a b g') => empty_any h.b0 (o := 0) rfl)
  clear h
  have HK : Hid (∀ w1 w2, CnA w w1 lo a b g { g.x with w := [] } → (∀ g' : Cm, g'.k = g.k → g'.x = { g.x with w := [] } → Cn w1 lo a b g' → CnA w1 w2 lo a b g' { g.x with w := [], i := [] }) → CnA w w2 lo a b g { g.x with w := [], i := [] }) := fun w1 w2 h k => h.trans k
  go_enter Try.func47, Try.ntmps47
  go_wp2_with fail
  refine HE.out.mono ?_
  rintro e w1 ⟨rfl, h1, h2⟩
  have H1 := hid (HL.out _ h1 h2)
  clear h1 h2
  obtain ⟨g', hk, hx, hc, hg, hf⟩ := H1.out
  have HC2 := hid (HE2.out w1 g' hc)
  rw [hk] at HC2
  have HB : Hid (∀ w2, BB w2 g'.k 69 [] [g'.v 1, .int .i64 ((1048576 : Nat) : Int), g'.v 2, .int .i64 (b : Int), g'.v 3, .bool g'.x.cl, .bool g'.x.ct] (.slice none 0 0) a ∧ Fr w1 w2 (fun k => k = g'.k) → CnA w w2 lo a b g { g.x with w := [], i := [] }) := fun w2 ⟨h3, h4⟩ => by
    obtain ⟨g2, k1, k2, k3, k4, k5⟩ := hc.bf0 (bfa_empty (lo := lo) (v := g'.v 0) h3 h4)
    rw [hx] at k2
    refine ⟨g2, k1.trans hk, k2, k3, hg.trans k4 hf.size, hf.trans2 k5 (fun k hk ho => ?_)⟩
    rcases hg k ho with h | h
    · exact h
    · omega
  rw [hk] at HB
  clear hc hg hf H1 HE2 HL HK
  go_wp2_with fail
  refine HC2.out.mono ?_
  rintro e w2 ⟨rfl, h3⟩
  have H3 := hid (HB.out _ h3)
  clear h3 HB
  go_wp2_with fail
  go_end0
  exact ⟨rfl, H3.out⟩
end Go.Proofs.Ytedlpefglgleeab
