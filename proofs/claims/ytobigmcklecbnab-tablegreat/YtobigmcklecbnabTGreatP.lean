/- TableGreat: how the table stands in each loop. Nothing of the program is used here. -/
import Derived.Test.YtobigmcklecbnabTName
namespace Go.Proofs.Ytobigmcklecbnab
open Go.RowKit

/-- Is the i-th key dropped at once? -/
def gn (e i : Nat) : Bool := decide (1 < e ∧ i % e = 0)
/-- Behind i keys. -/
structure Gr (s : ByteArray) (e i : Nat) (T : Tb) : Prop where
  inv : Inv T
  has : ∀ k v, Has T k v ↔ ∃ j, j < i ∧ gn e j = false ∧ k = nk s j ∧ v = kv j
  keys : T.keys ≤ i
  len : T.row.length ≤ 8 + 8 * i
theorem Gr.zero (s : ByteArray) (e : Nat) : Gr s e 0 (newT (.int .i64 0)) :=
  ⟨new_inv _, fun k v => ⟨fun h => absurd h (new_has _ k v), fun ⟨j, h, _⟩ => absurd h (Nat.not_lt_zero _)⟩, Nat.zero_le _, by simp [newT]⟩
theorem Gr.fresh {s : ByteArray} {e i : Nat} {T : Tb} (h : Gr s e i T) : ∀ v, ¬ Has T (nk s i) v := by
  intro v hv
  obtain ⟨j, hj, _, e1, _⟩ := (h.has _ _).1 hv
  have := nk_inj e1
  omega
/-- The put. -/
theorem Gr.put {s : ByteArray} {e i : Nat} {T : Tb} (h : Gr s e i T) : Inv (putT (.int .i64 0) T (nk s i) (kv i)) ∧ (∀ k v, Has (putT (.int .i64 0) T (nk s i) (kv i)) k v ↔ (k = nk s i ∧ v = kv i) ∨ ∃ j, j < i ∧ gn e j = false ∧ k = nk s j ∧ v = kv j) ∧ (putT (.int .i64 0) T (nk s i) (kv i)).keys = T.keys + 1 ∧ (putT (.int .i64 0) T (nk s i) (kv i)).row.length = (if 3 * T.row.length < 4 * (T.keys + 1) then 2 * T.row.length else T.row.length) ∧ (putT (.int .i64 0) T (nk s i) (kv i)).row.length ≤ 8 + 8 * (i + 1) := by
  obtain ⟨a1, a2, a3, a4, _⟩ := put_new (z := .int .i64 0) h.inv (kv i) h.fresh
  refine ⟨a1, fun k v => ?_, a3, a4, ?_⟩
  · rw [a2, h.has]
    constructor
    · rintro (h1 | ⟨_, h1⟩)
      · exact Or.inl h1
      · exact Or.inr h1
    · rintro (h1 | ⟨j, hj, h2, e1, e2⟩)
      · exact Or.inl h1
      · refine Or.inr ⟨?_, j, hj, h2, e1, e2⟩
        rw [e1]
        intro e3
        have := nk_inj e3
        omega
  · rw [a4]
    have := h.keys
    have := h.len
    split <;> omega
theorem Gr.stay {s : ByteArray} {e i : Nat} {T : Tb} (h : Gr s e i T) (hg : gn e i = false) : Gr s e (i + 1) (putT (.int .i64 0) T (nk s i) (kv i)) := by
  obtain ⟨a1, a2, a3, _, a5⟩ := h.put
  refine ⟨a1, fun k v => ?_, by rw [a3]; have := h.keys; omega, a5⟩
  rw [a2]
  constructor
  · rintro (⟨e1, e2⟩ | ⟨j, hj, h2, e1, e2⟩)
    · exact ⟨i, by omega, hg, e1, e2⟩
    · exact ⟨j, by omega, h2, e1, e2⟩
  · rintro ⟨j, hj, h2, e1, e2⟩
    by_cases e3 : j = i
    · subst e3; exact Or.inl ⟨e1, e2⟩
    · exact Or.inr ⟨j, by omega, h2, e1, e2⟩
theorem Gr.go {s : ByteArray} {e i : Nat} {T : Tb} (h : Gr s e i T) (hg : gn e i = true) : Gr s e (i + 1) (dropT (.int .i64 0) (putT (.int .i64 0) T (nk s i) (kv i)) (nk s i)) ∧ dropV (.int .i64 0) (putT (.int .i64 0) T (nk s i) (kv i)) (nk s i) = (kv i, true) ∧ (dropT (.int .i64 0) (putT (.int .i64 0) T (nk s i) (kv i)) (nk s i)).keys = T.keys ∧ (dropT (.int .i64 0) (putT (.int .i64 0) T (nk s i) (kv i)) (nk s i)).row.length = (putT (.int .i64 0) T (nk s i) (kv i)).row.length := by
  obtain ⟨a1, a2, a3, _, a5⟩ := h.put
  obtain ⟨b1, b2, b3, _, b5⟩ := drop_inv (z := .int .i64 0) a1 (nk s i)
  have hHas : Has (putT (.int .i64 0) T (nk s i) (kv i)) (nk s i) (kv i) := (a2 _ _).2 (Or.inl ⟨rfl, rfl⟩)
  rcases b5 with ⟨c1, _⟩ | ⟨w, c1, c2, c3⟩
  · exact absurd hHas (c1 _)
  · have hw : w = kv i := has_one a1.i0 c1 hHas
    subst hw
    refine ⟨⟨b1, fun k v => ?_, ?_, by rw [b3]; exact a5⟩, c3, by omega, b3⟩
    · rw [b2, a2]
      constructor
      · rintro ⟨hne, ⟨e1, _⟩ | ⟨j, hj, h2, e1, e2⟩⟩
        · exact absurd e1 hne
        · exact ⟨j, by omega, h2, e1, e2⟩
      · rintro ⟨j, hj, h2, e1, e2⟩
        by_cases e3 : j = i
        · subst e3; rw [hg] at h2; cases h2
        · refine ⟨?_, Or.inr ⟨j, by omega, h2, e1, e2⟩⟩
          rw [e1]
          exact fun e4 => e3 (nk_inj e4)
    · have := h.keys; omega
/-- What Get tells behind K keys. -/
theorem Gr.get {s : ByteArray} {e K i : Nat} {T : Tb} (h : Gr s e K T) (hi : i < K) : getT (.int .i64 0) T (nk s i) = if gn e i then (.int .i64 0, false) else (kv i, true) := by
  cases hg : gn e i
  · rw [if_neg (by simp)]
    exact get_has _ h.inv.i0 ((h.has _ _).2 ⟨i, hi, hg, rfl, rfl⟩)
  · rw [if_pos rfl]
    refine get_none _ h.inv.i0 (fun v hv => ?_)
    obtain ⟨j, _, h2, e1, _⟩ := (h.has _ _).1 hv
    have := nk_inj e1
    subst this
    rw [hg] at h2; cases h2
/-- While all are dropped. -/
structure Gd (s : ByteArray) (e K i : Nat) (T : Tb) : Prop where
  inv : Inv T
  has : ∀ k v, Has T k v ↔ ∃ j, i ≤ j ∧ j < K ∧ gn e j = false ∧ k = nk s j ∧ v = kv j
  left : T.left = 0
theorem Gr.down {s : ByteArray} {e K : Nat} {T : Tb} (h : Gr s e K T) : Gd s e K 0 (moveT (.int .i64 0) T (T.left : Int)) ∧ (moveT (.int .i64 0) T (T.left : Int)).keys = T.keys ∧ (moveT (.int .i64 0) T (T.left : Int)).row.length = T.row.length := by
  obtain ⟨a1, a2, a3, a4, a5⟩ := move_inv (.int .i64 0) h.inv.i0 (T.left : Int)
  refine ⟨⟨a1, fun k v => ?_, by rw [a3]; omega⟩, a5, a4⟩
  rw [a2, h.has]
  constructor
  · rintro ⟨j, hj, r⟩; exact ⟨j, by omega, hj, r⟩
  · rintro ⟨j, _, hj, r⟩; exact ⟨j, hj, r⟩
theorem Gd.next {s : ByteArray} {e K i : Nat} {T : Tb} (h : Gd s e K i T) (hi : i < K) : Gd s e K (i + 1) (dropT (.int .i64 0) T (nk s i)) ∧ (dropT (.int .i64 0) T (nk s i)).row.length = T.row.length ∧ (if gn e i then (dropV (.int .i64 0) T (nk s i) = (.int .i64 0, false) ∧ (dropT (.int .i64 0) T (nk s i)).keys = T.keys) else (dropV (.int .i64 0) T (nk s i) = (kv i, true) ∧ (dropT (.int .i64 0) T (nk s i)).keys + 1 = T.keys)) := by
  obtain ⟨b1, b2, b3, b4, b5⟩ := drop_inv (z := .int .i64 0) h.inv (nk s i)
  have hm := (move_inv (.int .i64 0) h.inv.i0 4).2.2.1
  refine ⟨⟨b1, fun k v => ?_, by rw [b4, hm, h.left]; omega⟩, b3, ?_⟩
  · rw [b2, h.has]
    constructor
    · rintro ⟨hne, j, h1, h2, h3, e1, e2⟩
      refine ⟨j, ?_, h2, h3, e1, e2⟩
      rcases Nat.lt_or_ge i j with h4 | h4
      · exact h4
      · exact absurd (by rw [e1, show j = i by omega]) hne
    · rintro ⟨j, h1, h2, h3, e1, e2⟩
      refine ⟨?_, j, by omega, h2, h3, e1, e2⟩
      rw [e1]
      intro e3
      have := nk_inj e3
      omega
  · cases hg : gn e i
    · rw [if_neg (by simp)]
      have hHas : Has T (nk s i) (kv i) := (h.has _ _).2 ⟨i, Nat.le_refl _, hi, hg, rfl, rfl⟩
      rcases b5 with ⟨c1, _⟩ | ⟨w, c1, c2, c3⟩
      · exact absurd hHas (c1 _)
      · have hw : w = kv i := has_one h.inv.i0 c1 hHas
        subst hw
        exact ⟨c3, c2⟩
    · rw [if_pos rfl]
      have hno : ∀ w, ¬ Has T (nk s i) w := by
        intro w hw
        obtain ⟨j, _, _, h3, e1, _⟩ := (h.has _ _).1 hw
        have := nk_inj e1
        subst this
        rw [hg] at h3; cases h3
      rcases b5 with ⟨_, c2, c3⟩ | ⟨w, c1, _⟩
      · exact ⟨c3, c2⟩
      · exact absurd c1 (hno w)
theorem Gd.none {s : ByteArray} {e K : Nat} {T : Tb} (h : Gd s e K K T) : T.keys = 0 := by
  have hno : ∀ k v, ¬ Has T k v := by
    intro k v hv
    obtain ⟨j, h1, h2, _⟩ := (h.has _ _).1 hv
    omega
  have key : ∀ r : List Pl, (∀ k v, ¬ Ent r k v) → cnt r = 0 := by
    intro r hr
    unfold cnt
    rw [List.countP_eq_zero]
    intro p hp
    obtain ⟨i, hi, rfl⟩ := List.mem_iff_getElem.1 hp
    intro h1
    have h2 : Fnd r (at' r i).key i := ⟨hi, by rw [at_get hi]; simpa using h1, rfl⟩
    exact hr _ _ h2.ent
  rw [h.inv.i0.keys, key _ (fun k v hh => hno k v (Or.inl hh)), key _ (fun k v hh => hno k v (Or.inr hh))]
end Go.Proofs.Ytobigmcklecbnab
