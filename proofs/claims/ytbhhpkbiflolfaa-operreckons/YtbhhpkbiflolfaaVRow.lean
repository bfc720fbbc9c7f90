/- Views in a row of one's own. -/
import Derived.Test.YtbhhpkbiflolfaaQOpen3
import Derived.Laws.MakeOwn
import Derived.Laws.AppendOwnNone
namespace Go.Proofs.Ytbhhpkbiflolfaa
open Go.RowKit

/-- A nil slice has no room. -/
def Nz (v : Value) : Prop := ∀ n c, v = .slice none n c → c = 0
/-- Views as values. -/
def vc (L : List Vw) : List Value := L.flatMap fun v => [.int .i64 v.s, .int .i64 v.d, .int .i64 v.l]
theorem vc_append (a b : List Vw) : vc (a ++ b) = vc a ++ vc b := by simp [vc]
theorem vc_cons (c : Vw) (L : List Vw) : vc (c :: L) = [.int .i64 c.s, .int .i64 c.d, .int .i64 c.l] ++ vc L := by simp [vc]
theorem vc_length (L : List Vw) : (vc L).length = L.length * 3 := by
  induction L with
  | nil => rfl
  | cons x L ih => rw [vc_cons, List.length_append, ih, List.length_cons]; simp; omega
theorem vc_get {L : List Vw} {i : Nat} (hi : i < L.length) (rest : List Value) : (vc L ++ rest)[i * 3]? = some (.int .i64 (L.getD i vw0).s) ∧ (vc L ++ rest)[i * 3 + 1]? = some (.int .i64 (L.getD i vw0).d) ∧ (vc L ++ rest)[i * 3 + 2]? = some (.int .i64 (L.getD i vw0).l) := by
  have hl : (vc (L.take i)).length = i * 3 := by rw [vc_length, List.length_take]; omega
  have e : L = L.take i ++ (L.getD i vw0) :: L.drop (i + 1) := by
    have h1 : L.getD i vw0 = L[i] := by simp [List.getD, hi]
    rw [h1, List.getElem_cons_drop, List.take_append_drop]
  have e2 : vc L = vc (L.take i) ++ ([.int .i64 (L.getD i vw0).s, .int .i64 (L.getD i vw0).d, .int .i64 (L.getD i vw0).l] ++ vc (L.drop (i + 1))) := by
    conv => lhs; rw [e]
    rw [vc_append, vc_cons]
  rw [e2]
  refine ⟨?_, ?_, ?_⟩
  · rw [List.append_assoc, List.getElem?_append_right (by omega), hl, Nat.sub_self]; rfl
  · rw [List.append_assoc, List.getElem?_append_right (by omega), hl, show i * 3 + 1 - i * 3 = 1 by omega]; rfl
  · rw [List.append_assoc, List.getElem?_append_right (by omega), hl, show i * 3 + 2 - i * 3 = 2 by omega]; rfl
theorem vc_one (L : List Vw) : ∀ u ∈ vc L, u.oneCell' = true := by
  intro u hu
  simp only [vc, List.mem_flatMap] at hu
  obtain ⟨c, _, hc⟩ := hu
  simp at hc
  rcases hc with rfl | rfl | rfl <;> rfl
/-- Block g holds these views, and something behind them. -/
def RowW (w : World) (g : Nat) (L : List Vw) (rest : List Value) : Prop := w.heap[g]? = some (.cells (vc L ++ rest).toArray 49 (0, 0))
theorem RowW.lt {w : World} {g : Nat} {L : List Vw} {rest : List Value} (h : RowW w g L rest) : g < w.heap.size := lt_of_block h
theorem RowW.fr {w w' : World} {S : Nat → Prop} {g : Nat} {L : List Vw} {rest : List Value} (h : RowW w g L rest) (hf : Fr w w' S) (hS : ¬ S g) : RowW w' g L rest := by
  unfold RowW
  rw [hf.block g h.lt hS]
  exact h
theorem RowW.get {w : World} {g : Nat} {L : List Vw} {rest : List Value} (h : RowW w g L rest) {i : Nat} (hi : i < L.length) : w.cell? ⟨g, i * 3, none⟩ = some (.int .i64 (L.getD i vw0).s) ∧ w.cell? ⟨g, i * 3 + 1, none⟩ = some (.int .i64 (L.getD i vw0).d) ∧ w.cell? ⟨g, i * 3 + 2, none⟩ = some (.int .i64 (L.getD i vw0).l) := by
  obtain ⟨h1, h2, h3⟩ := vc_get hi rest
  refine ⟨?_, ?_, ?_⟩
  · rw [cell_of_row w g _ _ _ (0, 0) h]; simpa using h1
  · rw [cell_of_row w g _ _ _ (0, 0) h]; simpa using h2
  · rw [cell_of_row w g _ _ _ (0, 0) h]; simpa using h3
/-- The mark behind what is lent. -/
def mkV : Vw := ⟨-77, 0, 0⟩
/-- What is lent: the views, and a mark behind them. -/
structure Ln (w0 w : World) (v : Value) (vs : List Vw) : Prop where
  at' : ∃ g cap rest, v = .slice (some ⟨g, 0, none⟩) vs.length cap ∧ vs.length + 1 ≤ cap ∧ cap ≤ 9223372036854775807 ∧ w0.heap.size ≤ g ∧ RowW w g (vs ++ [mkV]) rest
theorem Ln.fr {w0 w w' : World} {S : Nat → Prop} {v : Value} {vs : List Vw} (h : Ln w0 w v vs) (hf : Fr w w' S) (hS : ∀ k, v.ownBlock = some k → ¬ S k) : Ln w0 w' v vs := by
  obtain ⟨g, cap, rest, rfl, h1, h2, h3, h4⟩ := h.at'
  exact ⟨g, cap, rest, rfl, h1, h2, h3, h4.fr hf (hS g rfl)⟩
theorem Ln.vs {w0 w : World} {v : Value} {vs : List Vw} (h : Ln w0 w v vs) (hl : vs.length ≤ 100) : Vs w v vs := by
  obtain ⟨g, cap, rest, rfl, h1, h2, h3, h4⟩ := h.at'
  refine ⟨_, _, rfl, by omega, fun _ => ⟨g, 0, rfl, fun i hi => ?_⟩⟩
  have := h4.get (i := i) (by rw [List.length_append]; omega)
  have e : (vs ++ [mkV]).getD i vw0 = vs.getD i vw0 := by simp [List.getD, List.getElem?_append_left hi]
  rw [e] at this
  simpa using this

theorem Try.info_view : (Try.prog.info? 49).map (fun i => (i.zero, i.size, i.bytes)) = some (some (.agg #[.int .i64 0, .int .i64 0, .int .i64 0]), 3, 24) := by kernel_rfl

theorem vs_cells {w : World} {b off : Nat} {vs : List Vw} (h : ∀ i, i < vs.length → w.cell? ⟨b, off + i * 3, none⟩ = some (.int .i64 (vs.getD i vw0).s) ∧ w.cell? ⟨b, off + i * 3 + 1, none⟩ = some (.int .i64 (vs.getD i vw0).d) ∧ w.cell? ⟨b, off + i * 3 + 2, none⟩ = some (.int .i64 (vs.getD i vw0).l)) : ∀ j u, (vc vs)[j]? = some u → w.cell? ((⟨b, off, none⟩ : Addr).add j) = some u := by
  intro j u hj
  have hjl : j < vs.length * 3 := by
    rcases Nat.lt_or_ge j (vs.length * 3) with h | h
    · exact h
    · rw [List.getElem?_eq_none (by rw [vc_length]; exact h)] at hj
      cases hj
  have hq : j / 3 < vs.length := by omega
  obtain ⟨g0, g1, g2⟩ := vc_get hq []
  obtain ⟨k0, k1, k2⟩ := h (j / 3) hq
  rw [List.append_nil] at g0 g1 g2
  rw [Addr.add_lit]
  have hc : j % 3 = 0 ∨ j % 3 = 1 ∨ j % 3 = 2 := by omega
  rcases hc with h | h | h
  · have e : j = j / 3 * 3 := by omega
    rw [e, g0] at hj
    rw [e, ← hj]
    exact k0
  · have e : j = j / 3 * 3 + 1 := by omega
    rw [e, g1] at hj
    rw [e, ← hj]
    exact k1
  · have e : j = j / 3 * 3 + 2 := by omega
    rw [e, g2] at hj
    rw [e, ← hj]
    exact k2

end Go.Proofs.Ytbhhpkbiflolfaa
