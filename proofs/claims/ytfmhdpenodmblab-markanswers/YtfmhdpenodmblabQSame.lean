/- The law's SameCells: walks. -/
import Derived.Test.YtfmhdpenodmblabQOpen3
namespace Go.Proofs.Ytfmhdpenodmblab
open Go.RowKit

/-- Cells that can be read at a slice. -/
def Cr (w : World) (u : Value) (L : List Ce) : Prop := ∃ ao cap, u = .slice ao L.length cap ∧ L.length ≤ 1000000 ∧ (L ≠ [] → ∃ g rest, ao = some ⟨g, 0, none⟩ ∧ RowC w g L rest)
theorem Cr.fr {w w' : World} {u : Value} {L : List Ce} (h : Cr w u L) (hf : Fr w w' (fun _ => False)) : Cr w' u L := by
  obtain ⟨ao, cap, rfl, hl, hc⟩ := h
  refine ⟨ao, cap, rfl, hl, fun hne => ?_⟩
  obtain ⟨g, rest, rfl, hr⟩ := hc hne
  exact ⟨g, rest, rfl, hr.fr hf (fun h => h)⟩
theorem Co.cr {w w' : World} {u : Value} {L : List Ce} (h : Co w w' u L) (hl : L.length ≤ 1000000) : Cr w' u L := by
  rcases h with ⟨rfl, rfl⟩ | ⟨g, rest, rfl, _, hr⟩
  · exact ⟨none, 0, rfl, by simp, fun h => absurd rfl h⟩
  · exact ⟨_, _, rfl, hl, fun _ => ⟨g, rest, rfl, hr⟩⟩
theorem opnL_len (vs : List Vw) (m t : Int) : (opnL vs m t).length ≤ 1000000 := by
  unfold opnL
  by_cases h : chkN vs t = 0
  · rw [if_pos h]
    obtain ⟨h4, hok, _⟩ := chk_ok h
    have h1 := winL_len hok h4 t
    have h2 : (opL vs m (winL vs t)).length ≤ (winL vs t).length := List.length_filter_le _ _
    omega
  · rw [if_neg h]
    simp

set_option maxHeartbeats 1000000 in
theorem same_true {w : World} {u1 u2 : Value} {L : List Ce} (h1 : Cr w u1 L) (h2 : Cr w u2 L) : Calls Try.prog 8 #[u1, u2] w fun e w' => e = .returned (.bool true) ∧ Fr w w' (fun _ => False) := by
  have H1 := hid h1
  have H2 := hid h2
  obtain ⟨ao, cap, rfl, hl, _⟩ := id h1
  obtain ⟨bo, cap2, rfl, _, _⟩ := id h2
  clear h1 h2
  go_enter Try.func8, Try.ntmps8
  go_wp2_with fail
  go_loopg [5] L.length (fun n s5 wx => ∃ i : Nat, s5 = .int .i64 (i : Int) ∧ Hid (i + n = L.length) ∧ Hid (Fr w wx (fun _ => False)))
  case atStart => exact ⟨0, rfl, by show _ = _; omega, Fr.refl _ _⟩
  case round =>
    obtain ⟨i, rfl, HG, HF⟩ := hrel
    cases gk with
    | zero =>
      have t1 : ¬ (i : Int) < (L.length : Int) := by have := HG.out; omega
      go_wp2_with fail
      go_ret
      exact ⟨rfl, HF.out⟩
    | succ n =>
      have hi : i < L.length := by have := HG.out; omega
      have t1 : (i : Int) < (L.length : Int) := by omega
      have hne : L ≠ [] := by intro e; subst e; simp at hi
      obtain ⟨ao', cap', e, _, hc1⟩ := H1.out.fr HF.out
      obtain ⟨g1, rest1, e2, hr1⟩ := hc1 hne
      cases e
      cases e2
      obtain ⟨bo', cap2', e, _, hc2⟩ := H2.out.fr HF.out
      obtain ⟨g2, rest2, e2, hr2⟩ := hc2 hne
      cases e
      cases e2
      obtain ⟨a0, a1, a2⟩ := hr1.get hi
      obtain ⟨b0, b1, b2⟩ := hr2.get hi
      have l1 := hr1.lt
      have l2 := hr2.lt
      have HI := hid hi
      clear hc1 hc2 hr1 hr2 hne hi
      generalize ((L.getD i ce0).v : Int) = cv0 at *
      generalize (L.getD i ce0).s = cs0 at *
      go_wp2_with fail
      go_quiet (fail)
      go_wp2_with fail
      go_roundg n
      case measure => omega
      case rel => exact ⟨i + 1, by go_num, by have := HG.out; show _ = _; omega, HF.out.drewN _⟩
end Go.Proofs.Ytfmhdpenodmblab
