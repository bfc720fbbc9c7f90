/- FlowPlays: a step as a block. -/
import Derived.Test.YtekhpehficabmaaXPlays
namespace Go.Proofs.Ytekhpehficabmaa
open Go.RowKit

def vSp (s : Sp) : Value := .agg #[.int .i64 s.k, .int .i64 s.a, .bool s.x.m, .string s.x.k, .int .i64 s.x.t, .int .i64 s.x.v]
def spo (s : Sp) : Obj := .cells #[.int .i64 s.k, .int .i64 s.a, .bool s.x.m, .string s.x.k, .int .i64 s.x.t, .int .i64 s.x.v] 35 (0, 0)
theorem PL.cells {w W : World} {B R box : Nat} {s t : Ps} {N : Nat} {st : Sp} {P : List (Nat × Obj)} (h : PL w W B R box s t ((N, spo st) :: P)) : W.cell? ⟨N, 0, none⟩ = some (.int .i64 st.k) ∧ W.cell? ⟨N, 1, none⟩ = some (.int .i64 st.a) ∧ W.cell? ⟨N, 2, none⟩ = some (.bool st.x.m) ∧ W.cell? ⟨N, 3, none⟩ = some (.string st.x.k) ∧ W.cell? ⟨N, 4, none⟩ = some (.int .i64 st.x.t) ∧ W.cell? ⟨N, 5, none⟩ = some (.int .i64 st.x.v) ∧ N < W.heap.size := by
  obtain ⟨O, g, _, _, _, _, _, h6⟩ := h
  have hc : W.heap[N]? = some (.cells #[.int .i64 st.k, .int .i64 st.a, .bool st.x.m, .string st.x.k, .int .i64 st.x.t, .int .i64 st.x.v] 35 (0, 0)) := (h6 (N, spo st) (by simp)).1
  refine ⟨?_, ?_, ?_, ?_, ?_, ?_, lt_of_block hc⟩ <;> simp [World.cell?, hc]
/-- What told leaves. -/
def ToldR (w w' : World) (B R box : Nat) : Prop := ∃ s, PL w w' B R box s s [] ∧ Inv s
end Go.Proofs.Ytekhpehficabmaa
