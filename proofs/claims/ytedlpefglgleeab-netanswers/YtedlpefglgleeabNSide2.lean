/- net: send, bring, write, fetch: walks. -/
import Derived.Test.YtedlpefglgleeabNSide
import Derived.Deep.RegionWith
namespace Go.Proofs.Ytedlpefglgleeab
open Go.RowKit

/-- Dropping from a row, behind something else. -/
theorem drop_b1 {w W : World} {lo a b : Nat} {g : Cm} {x : Cp} (h : CnA w W lo a b g x) (n : Nat) (hn : n ≤ x.w.length) : Calls Try.prog 46 #[.pointer (some ⟨g.k, 2, none⟩), .int .i64 (n : Int)] W fun e w' => e = .returned (.tuple #[]) ∧ CnA w w' lo a b g { x with w := x.w.drop n } := by
  have h0 := h
  obtain ⟨g', hk, hx, hc, hg, hf⟩ := h
  have hrow := hc.row 1 (by omega)
  change Rw W lo 5 (g'.v 1) g'.x.w at hrow
  rw [← hk]
  refine (drop_any hc.b1 (o := 2) rfl hrow Try.tne n (by rw [hx]; exact hn)).mono fun e w2 ⟨he, hA⟩ => ⟨he, ?_⟩
  obtain ⟨g2, k1, k2, k3, k4, k5⟩ := hc.bf1 hA
  refine ⟨g2, k1.trans hk, by rw [k2, hx], k3, hg.trans k4 hf.size, hf.trans2 k5 (fun k hk ho => ?_)⟩
  rcases hg k ho with h | h
  · exact h
  · omega
theorem drop_b2 {w W : World} {lo a b : Nat} {g : Cm} {x : Cp} (h : CnA w W lo a b g x) (n : Nat) (hn : n ≤ x.o.length) : Calls Try.prog 46 #[.pointer (some ⟨g.k, 4, none⟩), .int .i64 (n : Int)] W fun e w' => e = .returned (.tuple #[]) ∧ CnA w w' lo a b g { x with o := x.o.drop n } := by
  obtain ⟨g', hk, hx, hc, hg, hf⟩ := h
  have hrow := hc.row 2 (by omega)
  change Rw W lo 5 (g'.v 2) g'.x.o at hrow
  rw [← hk]
  refine (drop_any hc.b2 (o := 4) rfl hrow Try.tne n (by rw [hx]; exact hn)).mono fun e w2 ⟨he, hA⟩ => ⟨he, ?_⟩
  obtain ⟨g2, k1, k2, k3, k4, k5⟩ := hc.bf2 hA
  refine ⟨g2, k1.trans hk, by rw [k2, hx], k3, hg.trans k4 hf.size, hf.trans2 k5 (fun k hk ho => ?_)⟩
  rcases hg k ho with h | h
  · exact h
  · omega
/-- Does all of it fit on the way? -/
def wayB (x : Cp) (n : Nat) : Bool := decide (x.w.length + n ≤ 1048576)
set_option maxHeartbeats 1000000 in
theorem send_any {w : World} {lo a b : Nat} {g : Cm} (h : Cn w lo a b g) (hlo : lo ≤ w.heap.size) (hw : g.x.w.length ≤ 1048576) {ao : Option Addr} {zcap : Nat} {zs : List Nat} (hz : Bs w (.slice ao zs.length zcap) zs) (hzc : zs.length ≤ zcap) :
    Calls Try.prog 27 #[.pointer (some ⟨g.k, 0, none⟩), .slice ao zs.length zcap] w fun e w' => e = .returned (.bool (wayB g.x zs.length)) ∧ CnA w w' lo a b g (if wayB g.x zs.length then { g.x with w := g.x.w ++ zs } else g.x) := by
  have hrow := h.row 1 (by omega)
  change Rw w lo 5 (g.v 1) g.x.w at hrow
  have HF := hid (free_any h.b1 (o := 2) rfl hrow hw (Nat.le_refl _))
  have HL : Hid (∀ W, Fr w W (fun _ => False) → g.x.w.length + zs.length ≤ 1048576 → Calls Try.prog 43 #[.pointer (some ⟨g.k, 2, none⟩), .slice ao zs.length zcap] W fun e w' => (∃ n, e = .returned (.int .i64 n)) ∧ CnA w w' lo a b g { g.x with w := g.x.w ++ zs }) := fun W hf hle => by
    have h2 := h.still hf
    refine (lay_any h2.b1 (o := 2) rfl (hrow.fr hf (fun _ _ h => h)) Try.tne hw (Nat.le_refl _) (Nat.le_trans hlo hf.size) (hz.fr hf (fun _ _ h => h)) hzc).mono fun e w2 ⟨he, hA⟩ => ⟨⟨_, he⟩, ?_⟩
    rw [Nat.min_eq_left (show zs.length ≤ 1048576 - g.x.w.length by omega), List.take_length] at hA
    exact CnA.pre hf (h2.bf1 hA)
  have HS := hid (fun W hf => h.same (w' := W) hf)
  clear h hrow hz
  by_cases hle : g.x.w.length + zs.length ≤ 1048576
  · have e1 : wayB g.x zs.length = true := decide_eq_true hle
    rw [e1, if_pos rfl]
    have t1 : ¬ ((1048576 - g.x.w.length : Nat) : Int) < (zs.length : Int) := by omega
    have HLE := hid hle
    clear hle e1
    generalize 1048576 - g.x.w.length = fr at *
    go_enter Try.func27, Try.ntmps27
    go_wp2_with fail
    refine HF.out.mono ?_
    rintro e w1 ⟨rfl, hf⟩
    have HF1 := hid hf
    clear hf
    go_wp2_with fail
    refine (HL.out _ HF1.out HLE.out).mono ?_
    rintro e w2 ⟨⟨n, rfl⟩, hA⟩
    have HA := hid hA
    clear hA
    go_wp2_with fail
    go_ret
    exact ⟨rfl, HA.out⟩
  · have e1 : wayB g.x zs.length = false := decide_eq_false hle
    rw [e1, if_neg (by decide)]
    have t1 : ((1048576 - g.x.w.length : Nat) : Int) < (zs.length : Int) := by omega
    clear hle e1
    generalize 1048576 - g.x.w.length = fr at *
    go_enter Try.func27, Try.ntmps27
    go_wp2_with fail
    refine HF.out.mono ?_
    rintro e w1 ⟨rfl, hf⟩
    have HF1 := hid hf
    clear hf
    go_wp2_with fail
    go_ret
    exact ⟨rfl, HS.out _ HF1.out⟩
theorem part_eq (n room : Nat) (most : Int) : min (frN n most) room = partN n room most := by unfold frN partN; omega
theorem part_le (n room : Nat) (most : Int) : partN n room most ≤ n := by unfold partN; omega
set_option maxHeartbeats 1000000 in
theorem bring_any {w : World} {lo a b : Nat} {g : Cm} (h : Cn w lo a b g) (hlo : lo ≤ w.heap.size) (hi : g.x.i.length ≤ a) (ha : a ≤ 131072) (most : Int) :
    Calls Try.prog 30 #[.pointer (some ⟨g.k, 0, none⟩), .int .i64 most] w fun e w' => e = .returned (.int .i64 ((partN g.x.w.length (a - g.x.i.length) most : Nat) : Int)) ∧ CnA w w' lo a b g { g.x with i := g.x.i ++ g.x.w.take (partN g.x.w.length (a - g.x.i.length) most), w := g.x.w.drop (partN g.x.w.length (a - g.x.i.length) most) } := by
  have hrow := h.row 1 (by omega)
  have hrow0 := h.row 0 (by omega)
  change Rw w lo 5 (g.v 1) g.x.w at hrow
  change Rw w lo 5 (g.v 0) g.x.i at hrow0
  obtain ⟨a1, n1, e1, hc1⟩ := cnS h 1 (by omega)
  change g.v 1 = .slice a1 g.x.w.length n1 at e1
  change g.x.w.length ≤ n1 at hc1
  have hb1 := h.b1
  rw [e1] at hb1
  have hrow1 := hrow
  rw [e1] at hrow1
  have hfl : frN g.x.w.length most ≤ g.x.w.length := by unfold frN; omega
  obtain ⟨_, _, _, hbs⟩ := hrow1.bs (frN g.x.w.length most) hfl
  have hk := part_eq g.x.w.length (a - g.x.i.length) most
  have hk2 := part_le g.x.w.length (a - g.x.i.length) most
  have HF := hid (fun W (hf : Fr w W (fun _ => False)) => front_any (hb1.fr hf (fun h => h)) (o := 2) rfl hc1 most)
  have HL : Hid (∀ W, Fr w W (fun _ => False) → Calls Try.prog 43 #[.pointer (some ⟨g.k, 0, none⟩), .slice a1 (frN g.x.w.length most) n1] W fun e w' => e = .returned (.int .i64 ((partN g.x.w.length (a - g.x.i.length) most : Nat) : Int)) ∧ CnA w w' lo a b g { g.x with i := g.x.i ++ g.x.w.take (partN g.x.w.length (a - g.x.i.length) most) }) := fun W hf => by
    have h2 := h.still hf
    have hlen : (g.x.w.take (frN g.x.w.length most)).length = frN g.x.w.length most := by rw [List.length_take, Nat.min_eq_left hfl]
    have hbs2 : Bs W (.slice a1 (g.x.w.take (frN g.x.w.length most)).length n1) (g.x.w.take (frN g.x.w.length most)) := by rw [hlen]; exact hbs.fr hf (fun _ _ h => h)
    have := lay_any h2.b0 (o := 0) rfl (hrow0.fr hf (fun _ _ h => h)) Try.tne hi (by omega) (Nat.le_trans hlo hf.size) hbs2 (by rw [hlen]; omega)
    rw [hlen, hk, List.take_take, Nat.min_eq_left (show partN g.x.w.length (a - g.x.i.length) most ≤ frN g.x.w.length most by rw [← hk]; omega)] at this
    exact this.mono fun e w2 ⟨he, hA⟩ => ⟨he, CnA.pre hf (h2.bf0 hA)⟩
  have HD : Hid (∀ W, CnA w W lo a b g { g.x with i := g.x.i ++ g.x.w.take (partN g.x.w.length (a - g.x.i.length) most) } → Calls Try.prog 46 #[.pointer (some ⟨g.k, 2, none⟩), .int .i64 ((partN g.x.w.length (a - g.x.i.length) most : Nat) : Int)] W fun e w' => e = .returned (.tuple #[]) ∧ CnA w w' lo a b g { g.x with i := g.x.i ++ g.x.w.take (partN g.x.w.length (a - g.x.i.length) most), w := g.x.w.drop (partN g.x.w.length (a - g.x.i.length) most) }) := fun W hA => drop_b1 hA _ hk2
  clear h hrow hrow0 hrow1 hbs hb1 hk hk2 hfl hc1 e1
  generalize partN g.x.w.length (a - g.x.i.length) most = k at *
  generalize frN g.x.w.length most = m at *
  have HF0 := hid (Fr.refl w (fun _ => False))
  go_enter Try.func30, Try.ntmps30
  go_wp2_with fail
  go_region_with (first | (go_at_call 45; refine (HF.out _ (by first | exact HF0.out | exact HF0.out.drew)).mono ?_; rintro e w1 ⟨rfl, hf⟩; have HF1 := hid (HF0.out.drew.trans hf); clear hf) | (go_at_call 43; refine (HL.out _ HF1.out).mono ?_; rintro e w2 ⟨rfl, hA⟩; have HA := hid hA; clear hA))
  all_goals
    go_wp2_with fail
    refine (HD.out _ HA.out).mono ?_
    rintro e w3 ⟨rfl, hA3⟩
    have HA3 := hid hA3
    clear hA3
    go_wp2_with fail
    go_ret
    exact ⟨rfl, HA3.out⟩
end Go.Proofs.Ytedlpefglgleeab
