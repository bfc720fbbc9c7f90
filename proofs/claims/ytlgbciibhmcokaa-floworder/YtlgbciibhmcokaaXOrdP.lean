/- FlowOrder: what was put, what was taken, what is on its way: pure. -/
import Derived.Test.YtlgbciibhmcokaaXRef5
namespace Go.Proofs.Ytlgbciibhmcokaa
open Go.RowKit

/-- Is an item one of operator j's, of n? -/
def mine (n j : Nat) (x : It) : Bool := x.m || decide (rtF n x.k = j)
/-- What one source sent, among messages. -/
def fromI (i : Nat) (l : List Ms) : List It := (l.filter (fun m => decide (m.s = (i : Int)))).map (·.x)
theorem fromI_append (i : Nat) (a b : List Ms) : fromI i (a ++ b) = fromI i a ++ fromI i b := by simp [fromI]
theorem fromI_same (i : Nat) (x : It) : fromI i [⟨(i : Int), x⟩] = [x] := by simp [fromI]
theorem fromI_other {i k : Nat} (h : i ≠ k) (x : It) : fromI i [⟨(k : Int), x⟩] = [] := by
  have h2 : ¬ (k : Int) = (i : Int) := by omega
  simp [fromI, h2]
/-- What of a queue is still to go to operator j, the first mark brought to so many. -/
def rest (n : Nat) (q : List It) (br j : Nat) : List It :=
  match q with
  | [] => []
  | x :: L => (if x.m = true ∧ j < br then [] else [x].filter (mine n j)) ++ L.filter (mine n j)
theorem rest_zero (n : Nat) (q : List It) (j : Nat) : rest n q 0 j = q.filter (mine n j) := by
  cases q with
  | nil => rfl
  | cons x L =>
    show (if x.m = true ∧ j < 0 then [] else [x].filter (mine n j)) ++ L.filter (mine n j) = (x :: L).filter (mine n j)
    rw [if_neg (fun h => absurd h.2 (Nat.not_lt_zero _)), ← List.filter_append]
    rfl
theorem rest_put (n : Nat) (q : List It) (br j : Nat) (x : It) (h : q = [] → br = 0) : rest n (q ++ [x]) br j = rest n q br j ++ [x].filter (mine n j) := by
  cases q with
  | nil =>
    rw [h rfl, rest_zero]
    rfl
  | cons y L =>
    show (if y.m = true ∧ j < br then [] else [y].filter (mine n j)) ++ (L ++ [x]).filter (mine n j) = _
    rw [List.filter_append, ← List.append_assoc]
    rfl
/-- What was put, what was taken: nothing lost, in order. -/
structure OrdI (s : Ps) (put : List (List It)) (took : List (List Ms)) : Prop where
  lp : put.length = s.q.length
  lt : took.length = s.b.length
  eq : ∀ i j, i < s.q.length → j < s.b.length → (put.getD i []).filter (mine s.b.length j) = fromI i (took.getD j []) ++ (fromI i (s.b.getD j []) ++ rest s.b.length (s.q.getD i []) (s.n.getD i 0) j)
theorem OrdI.new (ns no : Nat) : OrdI (newP ns no) (List.replicate ns []) (List.replicate no []) := by
  refine ⟨by simp [newP], by simp [newP], fun i j hi hj => ?_⟩
  show ((List.replicate ns ([] : List It)).getD i []).filter _ = fromI i ((List.replicate no ([] : List Ms)).getD j []) ++ (fromI i ((List.replicate no ([] : List Ms)).getD j []) ++ rest _ ((List.replicate ns ([] : List It)).getD i []) ((List.replicate ns 0).getD i 0) j)
  rw [rep_getD, rep_getD]
  rfl
theorem OrdI.put {s : Ps} {put : List (List It)} {took : List (List Ms)} (h : OrdI s put took) (hv : Inv s) {n : Nat} {x : It} (he : putE s (n : Int) x = 0) : OrdI (putS s (n : Int) x) (put.set n (put.getD n [] ++ [x])) took := by
  have hn : n < s.q.length := by have := put_in he; omega
  have hs : putS s (n : Int) x = ⟨s.q.set n (s.q.getD n [] ++ [x]), s.n, s.b⟩ := by unfold putS; rw [if_pos he, Int.toNat_natCast]
  rw [hs]
  refine ⟨by simp [h.lp], h.lt, fun i j hi hj => ?_⟩
  change i < (s.q.set n _).length at hi
  rw [List.length_set] at hi
  show ((put.set n _).getD i []).filter (mine s.b.length j) = fromI i (took.getD j []) ++ (fromI i (s.b.getD j []) ++ rest s.b.length ((s.q.set n _).getD i []) (s.n.getD i 0) j)
  by_cases e : i = n
  · subst e
    rw [getD_set_same (by rw [h.lp]; exact hn), getD_set_same hn, List.filter_append, h.eq i j hi hj, rest_put _ _ _ _ _ (fun hq => Classical.byContradiction (fun hne => by
      obtain ⟨y, L, hy, _⟩ := hv i hne
      rw [hq] at hy; cases hy))]
    simp only [List.append_assoc]
  · rw [getD_set_other e, getD_set_other e]
    exact h.eq i j hi hj
theorem OrdI.take {s : Ps} {put : List (List It)} {took : List (List Ms)} (h : OrdI s put took) {j : Nat} {m : Ms} {L : List Ms} (hj : j < s.b.length) (hq : s.b.getD j [] = m :: L) : OrdI (takS s (j : Int)) put (took.set j (took.getD j [] ++ [m])) := by
  have hs : takS s (j : Int) = ⟨s.q, s.n, s.b.set j L⟩ := by unfold takS; rw [if_neg (fun h => h (by omega)), Int.toNat_natCast, hq]; rfl
  rw [hs]
  refine ⟨h.lp, by simp [h.lt], fun i k hi hk => ?_⟩
  change k < (s.b.set j L).length at hk
  show (put.getD i []).filter (mine (s.b.set j L).length k) = fromI i ((took.set j _).getD k []) ++ (fromI i ((s.b.set j L).getD k []) ++ rest (s.b.set j L).length (s.q.getD i []) (s.n.getD i 0) k)
  rw [List.length_set] at hk ⊢
  by_cases e : k = j
  · subst e
    rw [getD_set_same (by rw [h.lt]; exact hj), getD_set_same hj, h.eq i k hi hj, hq, fromI_append, show m :: L = [m] ++ L from rfl, fromI_append]
    simp only [List.append_assoc]
  · rw [getD_set_other e, getD_set_other e]
    exact h.eq i k hi hk
theorem rest_cons (n : Nat) (x : It) (L : List It) (br j : Nat) : rest n (x :: L) br j = (if x.m = true ∧ j < br then [] else [x].filter (mine n j)) ++ L.filter (mine n j) := rfl
/-- A box has one message more. -/
theorem from_set {s : Ps} {j : Nat} (hj : j < s.b.length) (n : Nat) (x : It) (i k : Nat) : fromI i ((s.b.set j (s.b.getD j [] ++ [⟨(n : Int), x⟩])).getD k []) = fromI i (s.b.getD k []) ++ (if k = j ∧ i = n then [x] else []) := by
  by_cases e : k = j
  · subst e
    rw [getD_set_same hj, fromI_append]
    by_cases e2 : i = n
    · subst e2
      rw [fromI_same, if_pos ⟨rfl, rfl⟩]
    · rw [fromI_other e2, if_neg (fun h => e2 h.2)]
  · rw [getD_set_other e, if_neg (fun h => e h.1), List.append_nil]
theorem OrdI.pass {s : Ps} {box : Nat} {put : List (List It)} {took : List (List Ms)} (h : OrdI s put took) (hw : Wf s box) (hv : Inv s) {n : Nat} {x : It} {L : List It} (hn : n < s.q.length) (hq : s.q.getD n [] = x :: L) : OrdI (pasT s n x (tow s n x)) put took := by
  have hj := tow_lt hw hn x
  have hnn : n < s.n.length := by rw [hw.nn]; exact hn
  by_cases hm : x.m = true
  · have hjj : tow s n x = s.n.getD n 0 := by unfold tow; rw [if_pos hm]
    rw [hjj] at hj ⊢
    have hmine : ∀ k, [x].filter (mine s.b.length k) = [x] := fun k => by simp [mine, hm]
    by_cases hl : s.n.getD n 0 + 1 < s.b.length
    · have hs : pasT s n x (s.n.getD n 0) = ⟨s.q, s.n.set n (s.n.getD n 0 + 1), s.b.set (s.n.getD n 0) (s.b.getD (s.n.getD n 0) [] ++ [⟨(n : Int), x⟩])⟩ := by unfold pasT; rw [if_pos ⟨hm, hl⟩]
      rw [hs]
      refine ⟨h.lp, by simp [h.lt], fun i k hi hk => ?_⟩
      change k < (s.b.set _ _).length at hk
      show (put.getD i []).filter (mine (s.b.set _ _).length k) = fromI i (took.getD k []) ++ (fromI i ((s.b.set _ _).getD k []) ++ rest (s.b.set _ _).length (s.q.getD i []) ((s.n.set n _).getD i 0) k)
      rw [List.length_set] at hk ⊢
      rw [from_set hj, h.eq i k hi hk]
      by_cases e : i = n
      · subst e
        rw [getD_set_same hnn, hq, rest_cons, rest_cons, hmine]
        by_cases e2 : k = s.n.getD i 0
        · subst e2
          rw [if_neg (fun h => absurd h.2 (Nat.lt_irrefl _)), if_pos ⟨rfl, rfl⟩, if_pos ⟨hm, by omega⟩]
          simp only [List.append_assoc, List.nil_append]
        · have f1 : (if k = s.n.getD i 0 ∧ i = i then [x] else ([] : List It)) = [] := if_neg (fun h => e2 h.1)
          rw [f1, List.append_nil]
          by_cases e3 : k < s.n.getD i 0
          · rw [if_pos ⟨hm, e3⟩, if_pos ⟨hm, by omega⟩]
          · rw [if_neg (fun h => e3 h.2), if_neg (fun h => by have := h.2; omega)]
      · rw [getD_set_other e, if_neg (fun h => e h.2), List.append_nil]
    · have hs : pasT s n x (s.n.getD n 0) = ⟨s.q.set n L, s.n.set n 0, s.b.set (s.n.getD n 0) (s.b.getD (s.n.getD n 0) [] ++ [⟨(n : Int), x⟩])⟩ := by unfold pasT; rw [if_neg (fun h => hl h.2), hq]; rfl
      rw [hs]
      refine ⟨by simp [h.lp], by simp [h.lt], fun i k hi hk => ?_⟩
      change i < (s.q.set n L).length at hi
      change k < (s.b.set _ _).length at hk
      show (put.getD i []).filter (mine (s.b.set _ _).length k) = fromI i (took.getD k []) ++ (fromI i ((s.b.set _ _).getD k []) ++ rest (s.b.set _ _).length ((s.q.set n L).getD i []) ((s.n.set n 0).getD i 0) k)
      rw [List.length_set] at hi hk ⊢
      rw [from_set hj, h.eq i k hi hk]
      by_cases e : i = n
      · subst e
        rw [getD_set_same hnn, getD_set_same hn, hq, rest_cons, rest_zero, hmine]
        by_cases e2 : k = s.n.getD i 0
        · subst e2
          rw [if_neg (fun h => absurd h.2 (Nat.lt_irrefl _)), if_pos ⟨rfl, rfl⟩]
          simp only [List.append_assoc]
        · have f1 : (if k = s.n.getD i 0 ∧ i = i then [x] else ([] : List It)) = [] := if_neg (fun h => e2 h.1)
          rw [f1, List.append_nil, if_pos ⟨hm, by omega⟩, List.nil_append]
      · rw [getD_set_other e, getD_set_other e, if_neg (fun h => e h.2), List.append_nil]
  · have hjj : tow s n x = rtF s.b.length x.k := by unfold tow; rw [if_neg hm]
    have hm' : x.m = false := by cases hq9 : x.m <;> simp_all
    have hz : s.n.getD n 0 = 0 := Classical.byContradiction (fun hne => by
      obtain ⟨y, L', hy, hym⟩ := hv n hne
      rw [hq] at hy
      cases hy
      exact hm hym)
    generalize hjg : tow s n x = j at *
    have hs : pasT s n x j = ⟨s.q.set n L, s.n.set n 0, s.b.set j (s.b.getD j [] ++ [⟨(n : Int), x⟩])⟩ := by unfold pasT; rw [if_neg (fun h => hm h.1), hq]; rfl
    rw [hs]
    refine ⟨by simp [h.lp], by simp [h.lt], fun i k hi hk => ?_⟩
    change i < (s.q.set n L).length at hi
    change k < (s.b.set _ _).length at hk
    show (put.getD i []).filter (mine (s.b.set _ _).length k) = fromI i (took.getD k []) ++ (fromI i ((s.b.set _ _).getD k []) ++ rest (s.b.set _ _).length ((s.q.set n L).getD i []) ((s.n.set n 0).getD i 0) k)
    rw [List.length_set] at hi hk ⊢
    rw [from_set hj, h.eq i k hi hk]
    by_cases e : i = n
    · subst e
      rw [getD_set_same hnn, getD_set_same hn, hq, hz, rest_zero, rest_zero]
      by_cases e2 : k = j
      · have hmk : mine s.b.length k x = true := by simp [mine, hm', e2, hjj]
        rw [if_pos ⟨e2, rfl⟩, List.filter_cons_of_pos hmk]
        simp only [List.append_assoc, List.cons_append, List.nil_append]
      · have hmk : ¬ mine s.b.length k x = true := by
          simp only [mine, hm', Bool.false_or, decide_eq_true_eq]
          intro h9
          exact e2 (by rw [← h9, ← hjj])
        rw [if_neg (fun h => e2 h.1), List.append_nil, List.filter_cons_of_neg hmk]
    · rw [getD_set_other e, getD_set_other e, if_neg (fun h => e h.2), List.append_nil]
/-- At the end all is taken. -/
theorem OrdI.done {s : Ps} {put : List (List It)} {took : List (List Ms)} (h : OrdI s put took) {i j : Nat} (hi : i < s.q.length) (hj : j < s.b.length) (h1 : (s.q.getD i []).length = 0) (h2 : (s.b.getD j []).length = 0) : (put.getD i []).filter (mine s.b.length j) = fromI i (took.getD j []) := by
  rw [h.eq i j hi hj, List.eq_nil_of_length_eq_zero h1, List.eq_nil_of_length_eq_zero h2]
  simp [rest, fromI]
end Go.Proofs.Ytlgbciibhmcokaa
