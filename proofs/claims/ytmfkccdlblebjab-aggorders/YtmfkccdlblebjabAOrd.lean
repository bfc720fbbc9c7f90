/- Appending what came in; blocks by name. -/
import Derived.Test.YtmfkccdlblebjabARoom
import Derived.Test.YtmfkccdlblebjabARight
import Derived.Maps.AppendAt
namespace Go.Proofs.Ytmfkccdlblebjab
open Go.RowKit

theorem sb_ag {w W : World} {L : List (Nat × Obj)} (h : SB w L W) {B : Nat} {a : Ag} (hm : (B, agO a) ∈ L) : W.cell? ⟨B, 0, none⟩ = some (.int .i64 a.c) ∧ W.cell? ⟨B, 1, none⟩ = some (.int .i64 a.s) ∧ W.cell? ⟨B, 2, none⟩ = some (.int .i64 a.lo) ∧ W.cell? ⟨B, 3, none⟩ = some (.int .i64 a.hi) := by
  have hA : AgAt W B a := h.1 (B, agO a) hm
  exact ⟨hA.cells.1, hA.cells.2.1, hA.cells.2.2.1, hA.cells.2.2.2.1⟩
theorem SB.new {w W : World} {L : List (Nat × Obj)} (h : SB w L W) (o : Obj) : SB w ((W.heap.size, o) :: L) (W.alloc o) := (h.alloc o).more (heap_last _ _ _ rfl)

/-- An owned row of numbers can be read. -/
theorem own_is {w : World} {base n : Nat} {v : Value} {zs : List Int} (h : w.ownsRow base 2 1 v n (iv zs)) (hf : ∀ x ∈ zs, fits x) (hl : zs.length ≤ 140737488355328) : Is w v zs := by
  have hn : zs.length = n := by have := h.1; simpa [iv] using this
  rcases h.2 with ⟨rfl, h0⟩ | ⟨g, cap, cur, rfl, _⟩
  · have : zs = [] := List.eq_nil_of_length_eq_zero (by omega)
    subst this
    exact ⟨none, 0, rfl, by simp, hf, fun h => absurd rfl h⟩
  · subst hn
    refine ⟨_, _, rfl, hl, hf, fun _ => ⟨g, 0, rfl, fun i hi => ?_⟩⟩
    have := h.cells (g := g) rfl i _ (iv_get zs i hi)
    rwa [Addr.add_lit] at this

theorem append_is {w : World} {ops : Array Oper} {rest : List Oper} {o : Oper} {a : Act} {Q : Exit → Act → World → Prop} (hgd : o.guard = none) (s x : Operand)
    (ho : o.op = .call { callee := .builtin .append, args := #[s, x], argTypes := #[22, 22] })
    (base : Nat) (v : Value) (n : Nat) (vs : List Value) (hs : a.eval s = v) (hown : w.ownsRow base 2 1 v n vs)
    (u : Value) (ys : List Int) (hx : a.eval x = u) (hu : Is w u ys) (hnz : Nz u) (hb : n + ys.length ≤ 20000) (hbase : base ≤ w.heap.size)
    (h : ∀ v' w', w'.ownsRow base 2 1 v' (n + ys.length) (vs ++ iv ys) → w.grownBy w' v.ownBlock → wpList Try.prog ops Q rest (a.put o.dst v') w') :
    wpList Try.prog ops Q (o :: rest) a w := by
  obtain ⟨i0, hi, hz0, hz1, hz2⟩ := info_parts Try.info_i64
  obtain ⟨ao, cap, rfl, hlen, hfit, hcell⟩ := hu
  match ao with
  | none =>
    obtain ⟨h0, rfl⟩ := hnz _ _ rfl
    have hy : ys = [] := List.eq_nil_of_length_eq_zero h0
    subst hy
    refine wpList_append_own_none hgd s x 22 ho base 2 i0 1 Try.underlying22 hi v n vs hs hown hx ?_
    have := h v w (by simpa [iv] using hown) ⟨rfl, rfl, rfl, Nat.le_refl _, fun _ _ _ => rfl⟩
    exact this
  | some ad =>
    refine wpList_append_own_at w hgd s x 22 ho base 2 i0 (.int .i64 0) 1 8 Try.underlying22 hi hz0 hz1 hz2 rfl (by decide) v n vs hs hown ad ys.length cap (iv ys) hx (by rw [iv_length, Nat.mul_one]) ?_ (iv_one ys) (by unfold maxLen; omega) (by omega) hbase ?_
    · intro j z hz
      have hj : j < ys.length := by
        rcases Nat.lt_or_ge j ys.length with h | h
        · exact h
        · rw [List.getElem?_eq_none (by rw [iv_length]; exact h)] at hz
          cases hz
      obtain ⟨b, off, e, hck⟩ := hcell (by intro e; subst e; simp at hj)
      cases e
      rw [Addr.add_lit, hck j hj, ← hz, iv_get ys j hj]
    · intro v' w' h1 h2 _ _
      exact h v' w' h1 h2

/-- Behind an append whose row lies behind an elder world, the blocks of that world stand. -/
theorem SB.grow {w W0 W W' : World} {L : List (Nat × Obj)} {row : Option Nat} (h0 : SB w L W0) (h : SB w L W) (hg : W.grownBy W' row) (hr : ∀ k, row = some k → W0.heap.size ≤ k) : SB w L W' := by
  have hs := h0.2.size
  refine ⟨fun q hq => ?_, h.2.grown hg (fun k hk e => by have := hr k e; omega)⟩
  have hlt := lt_of_block (h0.1 q hq)
  rw [hg.block q.1 (lt_of_block (h.1 q hq)) (fun e => by have := hr q.1 e.symm; omega)]
  exact h.1 q hq
theorem lit_empty (W : World) : (W.alloc (.cells #[] 2)).ownsRow W.heap.size 2 1 (.slice (some ⟨W.heap.size, 0, none⟩) 0 0) 0 [] := by
  have h := World.ownsRow_lit (size := 1) (e := 2) W #[] 0 (Nat.le_refl _) (by unfold maxLen; omega) (by simp)
  simpa using h
end Go.Proofs.Ytmfkccdlblebjab
