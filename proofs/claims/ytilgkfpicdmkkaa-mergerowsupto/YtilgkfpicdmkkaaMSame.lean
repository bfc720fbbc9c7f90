/- Rows that can be read at a slice; the laws' SameRows: a walk; append of rows. -/
import Derived.Test.YtilgkfpicdmkkaaMOrdP
import Derived.Test.YtilgkfpicdmkkaaMRefC0
import Derived.Test.YtilgkfpicdmkkaaMRowsW
import Derived.Test.YtilgkfpicdmkkaaMLong0
import Derived.Maps.AppendAt
import Derived.Laws.AppendOwnNone
import Derived.BigQuiet
import Derived.Deep.RegionHeld3
namespace Go.Proofs.Ytilgkfpicdmkkaa.M
open Go.RowKit

/-- Rows that can be read at a slice. -/
def RdR (w : World) (v : Value) (L : List Rw) : Prop := ∃ ao cap, v = .slice ao L.length cap ∧ L.length ≤ 9223372036854775807 ∧ (0 < L.length → ∃ b o, ao = some ⟨b, o, none⟩ ∧ ∀ i, i < L.length → M.W.ElAt w b (o + i * 7) (L[i]?.getD default))
theorem RdR.step {w w' : World} {v : Value} {L : List Rw} (h : RdR w v L) (hf : Fr w w' (fun _ => False)) : RdR w' v L := by
  obtain ⟨ao, cap, h1, h2, h3⟩ := h
  refine ⟨ao, cap, h1, h2, fun hp => ?_⟩
  obtain ⟨b, o, h4, h5⟩ := h3 hp
  exact ⟨b, o, h4, fun i hi => (h5 i hi).fr hf⟩
theorem own_el {base : Nat} {w : World} {g c : Nat} {L : List Rw} (h : w.ownsRow base 54 7 (.slice (some ⟨g, 0, none⟩) L.length c) L.length (rc L)) : ∀ i, i < L.length → M.W.ElAt w g (i * 7) (L[i]?.getD default) := fun j hj => by
  have hc : ∀ i, i < 7 → w.cell? ⟨g, j * 7 + i, none⟩ = some (cellR (L[j]?.getD default) i) := fun i hi => by
    have := h.cells (g := g) rfl _ _ (rc_get L j i hj hi)
    rw [Addr.add_lit, Nat.zero_add] at this
    exact this
  exact ⟨hc 0 (by omega), hc 1 (by omega), hc 2 (by omega), hc 3 (by omega), hc 4 (by omega), hc 5 (by omega), hc 6 (by omega)⟩
theorem own_cases {base : Nat} {w : World} {v : Value} {L : List Rw} (h : w.ownsRow base 54 7 v L.length (rc L)) : (v = .slice none 0 0 ∧ L = []) ∨ ∃ g c, v = .slice (some ⟨g, 0, none⟩) L.length c ∧ L.length ≤ c ∧ c ≤ 9223372036854775807 ∧ g < w.heap.size := by
  rcases h.2 with ⟨e, h'⟩ | ⟨g, c, cur, e3, hb, hg, hn, hm, _⟩
  · exact Or.inl ⟨e, List.eq_nil_of_length_eq_zero h'⟩
  · unfold maxLen at hm
    exact Or.inr ⟨g, c, e3, hn, by omega, lt_of_block hg⟩
theorem RdR.of {base : Nat} {w : World} {v : Value} {L : List Rw} (h : w.ownsRow base 54 7 v L.length (rc L)) (hl : L.length ≤ 1000000000) : RdR w v L := by
  rcases own_cases h with ⟨e, e2⟩ | ⟨g, c, e, _⟩
  · subst e2
    exact ⟨none, 0, e, by simp, fun h => by simp at h⟩
  · refine ⟨_, _, e, by omega, fun _ => ⟨g, 0, rfl, fun i hi => ?_⟩⟩
    rw [e] at h
    rw [Nat.zero_add]
    exact own_el h i hi

theorem el_cell {w : World} {b o : Nat} {r : Rw} (h : M.W.ElAt w b o r) : ∀ i, i < 7 → w.cell? ⟨b, o + i, none⟩ = some (cellR r i) := by
  obtain ⟨h0, h1, h2, h3, h4, h5, h6⟩ := h
  intro i hi
  match i, hi with
  | 0, _ => exact h0
  | 1, _ => exact h1
  | 2, _ => exact h2
  | 3, _ => exact h3
  | 4, _ => exact h4
  | 5, _ => exact h5
  | 6, _ => exact h6
/-- Rows that an append can read. -/
def RdZ (w : World) (u : Value) (ys : List Rw) : Prop := (u = .slice none 0 0 ∧ ys = []) ∨ ∃ b o c, u = .slice (some ⟨b, o, none⟩) ys.length c ∧ ∀ i, i < ys.length → M.W.ElAt w b (o + i * 7) (ys[i]?.getD default)
theorem wpl_ap {V wb : World} {ops : Array Oper} {rest : List Oper} {o : Oper} {a : Act} {Q : Exit → Act → World → Prop} (hgd : o.guard = none) (sl x : Operand)
    (ho : o.op = .call { callee := .builtin .append, args := #[sl, x], argTypes := #[22, 22] }) (v : Value) (l : List Rw) (hs : a.eval sl = v) (hb : M.W.Ro7 wb V v l) (u : Value) (ys : List Rw) (hx : a.eval x = u) (hu : RdZ V u ys) (hn : l.length + ys.length ≤ 1000000000)
    (h : ∀ v' w', M.W.Ro7 wb w' v' (l ++ ys) → V.grownBy w' v.ownBlock → wpList Try.prog ops Q rest (a.put o.dst v') w') : wpList Try.prog ops Q (o :: rest) a V := by
  obtain ⟨i0, hi, hz0, hz1, hz2⟩ := M.W.infoP M.W.Try.info_r7
  rcases hu with ⟨rfl, rfl⟩ | ⟨b, off, c, rfl, hel⟩
  · refine wpList_append_own_none hgd sl x 22 ho wb.heap.size 54 i0 7 Try.underlying22 hi v l.length (rc l) hs hb.1 hx ?_
    exact h v V (by rw [List.append_nil]; exact hb) ⟨rfl, rfl, rfl, Nat.le_refl _, fun _ _ _ => rfl⟩
  · refine wpList_append_own_at _ hgd sl x 22 ho wb.heap.size 54 i0 _ 7 64 Try.underlying22 hi hz0 hz1 hz2 rfl (by decide) v l.length (rc l) hs hb.1 ⟨b, off, none⟩ ys.length c (rc ys) hx (rc_length ys) ?_ (rc_one ys) (by unfold maxLen; omega) (by omega) hb.2.size ?_
    · intro j z hz
      have hj : j < ys.length * 7 := by
        rcases Nat.lt_or_ge j (ys.length * 7) with h | h
        · exact h
        · rw [List.getElem?_eq_none (by rw [rc_length]; exact h)] at hz
          cases hz
      have hq : j / 7 < ys.length := by omega
      have e1 : j = j / 7 * 7 + j % 7 := by omega
      have e2 := rc_get ys (j / 7) (j % 7) hq (by omega)
      rw [← e1] at e2
      rw [e2] at hz
      have e3 := el_cell (hel (j / 7) hq) (j % 7) (by omega)
      rw [Addr.add_lit, ← hz, ← e3]
      rw [show off + j = off + j / 7 * 7 + j % 7 by omega]
    · intro v' w' hown hgr _ hat
      refine h v' w' ⟨?_, hb.2.grown hgr (fun k hk e => by have := hb.1.lt k e; omega)⟩ hgr
      rw [rc_append, List.length_append]
      exact hown

set_option maxHeartbeats 2000000 in
set_option maxRecDepth 100000 in
theorem same_any {L : List Rw} {v u : Value} (w : World) (hv : RdR w v L) (hu : RdR w u L) :
    Calls Try.prog 11 #[v, u] w fun r w' => r = .returned (.bool true) ∧ Fr w w' (fun _ => False) := by
  obtain ⟨ao, cap, rfl, hl, hv⟩ := hv
  obtain ⟨ao2, cap2, rfl, _, hu⟩ := hu
  have HV := hid hv
  have HU := hid hu
  clear hv hu
  go_enter Try.func11, Try.ntmps11
  go_wp2_with fail
  go_loopg [5] L.length (fun g s5 wx => ∃ i : Nat, s5 = .int .i64 (i : Int) ∧ i + g = L.length ∧ Hid (Fr w wx (fun _ => False)))
  case atStart => exact ⟨0, rfl, by omega, Fr.refl _ _⟩
  case round =>
    obtain ⟨i, rfl, hg, HF⟩ := hrel
    cases gk with
    | zero =>
      have t1 : ¬ (i : Int) < (L.length : Int) := by omega
      clear hg
      go_wp2_with fail
      go_ret
      exact ⟨rfl, HF.out⟩
    | succ gk =>
      have t0 : (0 : Int) ≤ (i : Int) := by omega
      have t1 : (i : Int) < (L.length : Int) := by omega
      have HG := hid hg
      obtain ⟨b, o, rfl, h1⟩ := HV.out (by omega)
      obtain ⟨b2, o2, rfl, h2⟩ := HU.out (by omega)
      have e1 := (h1 i (by omega)).fr HF.out
      have e2 := (h2 i (by omega)).fr HF.out
      have l1 := e1.lt
      have l2 := e2.lt
      obtain ⟨a0, a1, a2, a3, a4, a5, a6⟩ := e1
      obtain ⟨c0, c1, c2, c3, c4, c5, c6⟩ := e2
      generalize L[i]?.getD default = x at *
      obtain ⟨⟨xv, xk, xs⟩, xn, xS, xm, xx⟩ := x
      dsimp only at *
      clear h1 h2 hg
      go_wp2_with fail
      go_quiet (fail)
      go_wp2_with fail
      go_roundg gk
      case measure => omega
      case rel => exact ⟨i + 1, by go_num, by have := HG.out; omega, HF.out.trans (by repeat (first | with_reducible exact Fr.refl _ _ | with_reducible apply Fr.drew | with_reducible apply Fr.drewN))⟩
end Go.Proofs.Ytilgkfpicdmkkaa.M
