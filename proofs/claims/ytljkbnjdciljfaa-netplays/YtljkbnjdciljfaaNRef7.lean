/- net: the document's net: Bring: a walk. -/
import Derived.Test.YtljkbnjdciljfaaNRef6
import Derived.BigRegion
namespace Go.Proofs.Ytljkbnjdciljfaa
open Go.RowKit
attribute [local go_sem ↓] Go.wp_at_zero Go.wp_at_succ

/-- A connection that lies in a box. -/
def Bx7 (W : World) (N : Nat) (v0 v1 v2 v3 v4 v5 v6 : Value) : Prop := W.heap[N]? = some (.cells #[v0, v1, v2, v3, v4, v5, v6] 99 (0, 0))
theorem Bx7.cells {W : World} {N : Nat} {v0 v1 v2 v3 v4 v5 v6 : Value} (h : Bx7 W N v0 v1 v2 v3 v4 v5 v6) : W.cell? ⟨N, 0, none⟩ = some v0 ∧ W.cell? ⟨N, 1, none⟩ = some v1 ∧ W.cell? ⟨N, 2, none⟩ = some v2 ∧ W.cell? ⟨N, 3, none⟩ = some v3 ∧ W.cell? ⟨N, 4, none⟩ = some v4 ∧ W.cell? ⟨N, 5, none⟩ = some v5 ∧ W.cell? ⟨N, 6, none⟩ = some v6 ∧ N < W.heap.size ∧ ∀ o, W.frozen? ⟨N, o, none⟩ = false := by
  have h' : W.heap[N]? = some (.cells #[v0, v1, v2, v3, v4, v5, v6] 99 (0, 0)) := h
  refine ⟨?_, ?_, ?_, ?_, ?_, ?_, ?_, lt_of_block h', fun o => free_of h' o⟩ <;> (rw [cell_of_row W N _ _ _ (0, 0) h']; rfl)
theorem Bx7.fr {W W' : World} {S : Nat → Prop} {N : Nat} {v0 v1 v2 v3 v4 v5 v6 : Value} (h : Bx7 W N v0 v1 v2 v3 v4 v5 v6) (hf : Fr W W' S) (hS : ¬ S N) : Bx7 W' N v0 v1 v2 v3 v4 v5 v6 := keep_block h hf hS
theorem Bx7.new (W : World) (v0 v1 v2 v3 v4 v5 v6 : Value) : Bx7 (W.alloc (.cells #[v0, v1, v2, v3, v4, v5, v6] 99)) W.heap.size v0 v1 v2 v3 v4 v5 v6 := heap_alloc_new W _
theorem Bx7.set {W : World} {N : Nat} {v0 v1 v2 v3 v4 v5 v6 : Value} (h : Bx7 W N v0 v1 v2 v3 v4 v5 v6) (u : Value) : Bx7 (W.setCell ⟨N, 3, none⟩ u) N v0 v1 v2 u v4 v5 v6 ∧ Bx7 (W.setCell ⟨N, 4, none⟩ u) N v0 v1 v2 v3 u v5 v6 ∧ Bx7 (W.setCell ⟨N, 5, none⟩ u) N v0 v1 v2 v3 v4 u v6 ∧ Bx7 (W.setCell ⟨N, 6, none⟩ u) N v0 v1 v2 v3 v4 v5 u := by
  have h' : W.heap[N]? = some (.cells #[v0, v1, v2, v3, v4, v5, v6] 99 (0, 0)) := h
  refine ⟨?_, ?_, ?_, ?_⟩ <;> exact heap_setCell_same W N _ _ _ u h'
/-- The whole connection is stored, and what was moved. -/
theorem RN.full {W Wj : World} {lo : Nat} {g : Rx} {s s' : Np} (h : RN W lo g s) (hj : Fr W Wj (fun _ => False)) {n : Nat} {x y : Cp} {k : Nat} (hn : n < 65) (hs' : s' = s.upd n y k) (hwf : Wf s') (hcl : y.cl = x.cl) (hct : y.ct = x.ct) {u : Nat → Value} (hu : ∀ j, 3 ≤ j → j < 7 → Rw Wj lo 5 (u j) (lst y j) ∧ ∀ q, (u j).ownBlock = some q → (∃ j', 3 ≤ j' ∧ j' < 7 ∧ (g.cv n j').ownBlock = some q) ∨ W.heap.size ≤ q) :
    RNA W ((((((((Wj.setCell ⟨g.L, n * 7, none⟩ (.bool true)).setCell ⟨g.L, n * 7 + 1, none⟩ (.bool x.cl)).setCell ⟨g.L, n * 7 + 2, none⟩ (.bool x.ct)).setCell ⟨g.L, n * 7 + 3, none⟩ (u 3)).setCell ⟨g.L, n * 7 + 4, none⟩ (u 4)).setCell ⟨g.L, n * 7 + 5, none⟩ (u 5)).setCell ⟨g.L, n * 7 + 6, none⟩ (u 6)).setCell ⟨g.G, 3, none⟩ (.int .i64 ((s.m : Int) + (k : Int)))) lo g s' := by
  have f0 : Fr Wj (Wj.setCell ⟨g.L, n * 7 + 0, none⟩ (.bool true)) (fun q => q = g.G ∨ q = g.L) := set_l n 0 _
  have hf1 := (((((f0.trans (set_l n 1 (.bool x.cl))).trans (set_l n 2 (.bool x.ct))).trans (set_l n 3 (u 3))).trans (set_l n 4 (u 4))).trans (set_l n 5 (u 5))).trans (set_l n 6 (u 6))
  have hL := (((((((h.row.fr hj (fun h => h)).set n 0 hn (by omega) (.bool true)).set n 1 hn (by omega) (.bool x.cl)).set n 2 hn (by omega) (.bool x.ct)).set n 3 hn (by omega) (u 3)).set n 4 hn (by omega) (u 4)).set n 5 hn (by omega) (u 5)).set n 6 hn (by omega) (u 6)
  have hN := keep_block h.net hj (fun h => h)
  have hG := set_net (set_net (set_net (set_net (set_net (set_net (set_net hN h.gl (n * 7 + 0) (.bool true)) h.gl (n * 7 + 1) (.bool x.cl)) h.gl (n * 7 + 2) (.bool x.ct)) h.gl (n * 7 + 3) (u 3)) h.gl (n * 7 + 4) (u 4)) h.gl (n * 7 + 5) (u 5)) h.gl (n * 7 + 6) (u 6)
  have z1 := h.row.lt
  have z2 := lt_of_block h.net
  have key : ∀ j, 3 ≤ j → j < 7 → ∀ q, (u j).ownBlock = some q → q ≠ g.G ∧ q ≠ g.L := fun j h3 h7 q hq => by
    rcases (hu j h3 h7).2 q hq with ⟨j', a, b, e⟩ | h9
    · obtain ⟨n1, n2⟩ := h.ne hn a b
      exact ⟨fun e2 => n1 (by rw [e, e2]), fun e2 => n2 (by rw [e, e2])⟩
    · exact ⟨by omega, by omega⟩
  change RNA W ((((((((Wj.setCell ⟨g.L, n * 7 + 0, none⟩ (.bool true)).setCell ⟨g.L, n * 7 + 1, none⟩ (.bool x.cl)).setCell ⟨g.L, n * 7 + 2, none⟩ (.bool x.ct)).setCell ⟨g.L, n * 7 + 3, none⟩ (u 3)).setCell ⟨g.L, n * 7 + 4, none⟩ (u 4)).setCell ⟨g.L, n * 7 + 5, none⟩ (u 5)).setCell ⟨g.L, n * 7 + 6, none⟩ (u 6)).setCell ⟨g.G, 3, none⟩ (.int .i64 ((s.m : Int) + (k : Int)))) lo g s'
  generalize ((((((Wj.setCell ⟨g.L, n * 7 + 0, none⟩ (.bool true)).setCell ⟨g.L, n * 7 + 1, none⟩ (.bool x.cl)).setCell ⟨g.L, n * 7 + 2, none⟩ (.bool x.ct)).setCell ⟨g.L, n * 7 + 3, none⟩ (u 3)).setCell ⟨g.L, n * 7 + 4, none⟩ (u 4)).setCell ⟨g.L, n * 7 + 5, none⟩ (u 5)).setCell ⟨g.L, n * 7 + 6, none⟩ (u 6) = W8 at *
  have hfs : Fr W8 (W8.setCell ⟨g.G, 3, none⟩ (.int .i64 ((s.m : Int) + (k : Int)))) (fun q => q = g.G ∨ q = g.L) := (set_fr W8 g.G 3 _).mono (fun _ _ e => Or.inl e)
  have hfa := hf1.trans hfs
  refine h.upd hn hs' hwf ((hj.mono (fun _ _ h => h.elim)).trans hfa) ?_ (hL.fr (set_fr W8 g.G 3 _) (fun e => h.gl e.symm)) (fun i j e => by rw [cv_row _ e, cv_row _ e, cv_row _ e, cv_row _ e, cv_row _ e, cv_row _ e, cv_row _ e]) ?_ ?_ ?_ (four ?_ ?_ ?_ ?_)
  · rw [heap_setCell_same W8 g.G 3 _ _ _ hG, hs']
    show some (Obj.cells #[_, _, _, .int .i64 ((s.m : Int) + (k : Int))] _ _) = some (Obj.cells #[_, _, _, .int .i64 ((s.m + k : Nat) : Int)] _ _)
    rw [Int.natCast_add]
    rfl
  · rw [cv_col _ (by omega), cv_col _ (by omega), cv_col _ (by omega), cv_col _ (by omega), cv_col _ (by omega), cv_col _ (by omega), cv_same]
  · rw [cv_col _ (by omega), cv_col _ (by omega), cv_col _ (by omega), cv_col _ (by omega), cv_col _ (by omega), cv_same, hcl]
  · rw [cv_col _ (by omega), cv_col _ (by omega), cv_col _ (by omega), cv_col _ (by omega), cv_same, hct]
  all_goals
    repeat rw [cv_col _ (by omega)]
    rw [cv_same]
    refine ⟨((hu _ (by omega) (by omega)).1).fr hfa (fun q hq hs => ?_), (hu _ (by omega) (by omega)).2⟩
    obtain ⟨n1, n2⟩ := key _ (by omega) (by omega) q hq
    rcases hs with h | h
    · exact n1 h
    · exact n2 h
end Go.Proofs.Ytljkbnjdciljfaa
