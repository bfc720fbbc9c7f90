/- FlowOrder: what falls in every round: pure. -/
import Derived.Test.YtlgbciibhmcokaaXOrdP
namespace Go.Proofs.Ytlgbciibhmcokaa
open Go.RowKit

theorem sum_set : ∀ (l : List Int) (i : Nat) (y : Int), i < l.length → (l.set i y).sum = l.sum - l.getD i 0 + y
  | [], i, y, h => by simp at h
  | a :: l, 0, y, _ => by simp [List.getD]; omega
  | a :: l, i + 1, y, h => by
    have := sum_set l i y (by simpa using h)
    simp only [List.set_cons_succ, List.sum_cons, this]
    simp [List.getD]
    omega
theorem sum_le : ∀ (a b : List Int), a.length = b.length → (∀ i, i < a.length → a.getD i 0 ≤ b.getD i 0) → a.sum ≤ b.sum
  | [], [], _, _ => by simp
  | [], _ :: _, h, _ => by simp at h
  | _ :: _, [], h, _ => by simp at h
  | x :: a, y :: b, h, hi => by
    have h1 := sum_le a b (by simpa using h) (fun i hl => by simpa [List.getD] using hi (i + 1) (by simpa using hl))
    have h2 : x ≤ y := by simpa [List.getD] using hi 0 (by simp)
    simp only [List.sum_cons]
    omega
def wq (q : List It) : Int := 17 * (q.length : Int)
def wn (n : Nat) : Int := 2 * (n : Int)
def wb (b : List Ms) : Int := (b.length : Int)
/-- What is still to be done. -/
def phi (s : Ps) : Int := (s.q.map wq).sum - (s.n.map wn).sum + (s.b.map wb).sum
theorem map_getD {α : Type} (f : α → Int) (z : α) (hz : f z = 0) (l : List α) (i : Nat) : (l.map f).getD i 0 = f (l.getD i z) := by
  simp only [List.getD, List.getElem?_map]
  cases l[i]? with
  | none => simpa using hz.symm
  | some a => rfl
theorem phi_put {s : Ps} {n : Nat} {x : It} (he : putE s (n : Int) x = 0) : phi (putS s (n : Int) x) = phi s + 17 := by
  have hn : n < s.q.length := by have := put_in he; omega
  have hs : putS s (n : Int) x = ⟨s.q.set n (s.q.getD n [] ++ [x]), s.n, s.b⟩ := by unfold putS; rw [if_pos he, Int.toNat_natCast]
  rw [hs]
  unfold phi
  simp only [List.map_set]
  rw [sum_set _ _ _ (by simpa using hn), map_getD wq [] rfl]
  simp only [wq, List.length_append, List.length_cons, List.length_nil]
  omega
theorem phi_take {s : Ps} {j : Nat} {m : Ms} {L : List Ms} (hj : j < s.b.length) (hq : s.b.getD j [] = m :: L) : phi (takS s (j : Int)) = phi s - 1 := by
  have hs : takS s (j : Int) = ⟨s.q, s.n, s.b.set j L⟩ := by unfold takS; rw [if_neg (fun h => h (by omega)), Int.toNat_natCast, hq]; rfl
  rw [hs]
  unfold phi
  simp only [List.map_set]
  rw [sum_set _ _ _ (by simpa using hj), map_getD wb [] rfl, hq]
  simp only [wb, List.length_cons]
  omega
theorem phi_pass {s : Ps} {box : Nat} (hw : Wf s box) {n : Nat} {x : It} {L : List It} (hn : n < s.q.length) (hq : s.q.getD n [] = x :: L) : phi (pasT s n x (tow s n x)) ≤ phi s - 1 := by
  have hj := tow_lt hw hn x
  have hnn : n < s.n.length := by rw [hw.nn]; exact hn
  have h8 := hw.nb.2
  have hb := (hw.q n hn).2.1
  generalize tow s n x = j at *
  unfold pasT
  split
  · unfold phi
    simp only [List.map_set]
    rw [sum_set _ _ _ (by simpa using hnn), sum_set _ _ _ (by simpa using hj), map_getD wn 0 rfl, map_getD wb [] rfl]
    simp only [wn, wb, List.length_append, List.length_cons, List.length_nil]
    omega
  · unfold phi
    simp only [List.map_set]
    rw [sum_set _ _ _ (by simpa using hn), sum_set _ _ _ (by simpa using hnn), sum_set _ _ _ (by simpa using hj), map_getD wq [] rfl, map_getD wn 0 rfl, map_getD wb [] rfl, hq]
    simp only [wq, wn, wb, List.length_append, List.length_cons, List.length_nil, List.tail_cons]
    omega
theorem phi_nonneg {s : Ps} {box : Nat} (hw : Wf s box) (hv : Inv s) : 0 ≤ phi s := by
  have h1 : (s.n.map wn).sum ≤ (s.q.map wq).sum := sum_le _ _ (by simp [hw.nn]) (fun i hi => by
    have hi' : i < s.q.length := by rw [← hw.nn]; simpa using hi
    rw [map_getD wn 0 rfl, map_getD wq [] rfl]
    have h8 := hw.nb.2
    have hb := (hw.q i hi').2.1
    by_cases hz : s.n.getD i 0 = 0
    · rw [hz]; simp only [wn, wq]; omega
    · obtain ⟨x, L, hq, _⟩ := hv i hz
      rw [hq]
      simp only [wn, wq, List.length_cons]
      omega)
  have h2 : 0 ≤ (s.b.map wb).sum := by
    have := sum_le (s.b.map (fun _ => (0 : Int))) (s.b.map wb) (by simp) (fun i hi => by
      rw [map_getD wb [] rfl, map_getD (fun _ => (0 : Int)) [] rfl]
      simp only [wb]; omega)
    have e : (s.b.map (fun _ => (0 : Int))).sum = 0 := by
      generalize s.b = l
      induction l with
      | nil => rfl
      | cons a l ih => simp only [List.map_cons, List.sum_cons, ih]; rfl
    omega
  unfold phi
  omega
theorem phi_new (ns no : Nat) : phi (newP ns no) = 0 := by
  have e : ∀ n : Nat, (List.replicate n (0 : Int)).sum = 0 := fun n => by
    induction n with
    | zero => rfl
    | succ n ih => simp only [List.replicate_succ, List.sum_cons, ih]; rfl
  unfold phi newP
  simp only [List.map_replicate]
  show (List.replicate ns (0 : Int)).sum - (List.replicate ns (0 : Int)).sum + (List.replicate no (0 : Int)).sum = 0
  rw [e, e]
  rfl
end Go.Proofs.Ytlgbciibhmcokaa
