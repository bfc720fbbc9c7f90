/- Texts of one proof, joined. -/
import GoSem.Core.Value
section
/- Tables as lists of places: hashes, looking for a key, laying, mending, moving, growing; what follows (P607, P608). Nothing of the program is used here. -/
namespace Go.Proofs.YtgbkihkefdoddaaGreatDoor

/-- A text's hash, of its first n bytes. -/
def hashN (s : ByteArray) : Nat → Nat
  | 0 => 14695981039346656037
  | n + 1 => ((hashN s n ^^^ (s.data.getD n 0).toNat) * 1099511628211) % 18446744073709551616
def hashL (s : ByteArray) : Nat := hashN s s.size

/-- A place: 0 empty, 1 taken, 2 gone. -/
structure Pl where
  st : Nat
  key : ByteArray
  val : Value

def none8 : ByteArray := ⟨#[]⟩
/-- The empty place, over a zero value. -/
def pz (z : Value) : Pl := ⟨0, none8, z⟩
def pg (z : Value) : Pl := ⟨2, none8, z⟩

/-- The way from a place on to another, and the next one, in a row of n. -/
def ds (n a b : Nat) : Nat := if a ≤ b then b - a else b + n - a
def nx (n a : Nat) : Nat := if a + 1 = n then 0 else a + 1
theorem nx_lt {n a : Nat} (h : a < n) : nx n a < n := by unfold nx; split <;> omega
theorem nx_mod {n a : Nat} (h : a < n) : (a + 1) % n = nx n a := by
  unfold nx
  split
  · rename_i e; rw [e]; exact Nat.mod_self n
  · exact Nat.mod_eq_of_lt (by omega)
theorem ds_lt {n a b : Nat} (ha : a < n) (hb : b < n) : ds n a b < n := by unfold ds; split <;> omega
theorem ds_mod {n a b : Nat} (_ha : a < n) (hb : b < n) : (b + n - a) % n = ds n a b := by
  unfold ds
  split
  · rw [show b + n - a = (b - a) + n by omega, Nat.add_mod_right]; exact Nat.mod_eq_of_lt (by omega)
  · exact Nat.mod_eq_of_lt (by omega)
theorem ds_nx {n a b : Nat} (ha : a < n) (hb : b < n) (hne : a ≠ b) : ds n (nx n a) b + 1 = ds n a b := by
  unfold ds nx
  split <;> split <;> split <;> omega
theorem ds_self (n a : Nat) : ds n a a = 0 := by simp [ds]
theorem ds_zero {n a b : Nat} (ha : a < n) (_hb : b < n) (h : ds n a b = 0) : a = b := by unfold ds at h; split at h <;> omega

def at' (r : List Pl) (i : Nat) : Pl := r.getD i ⟨0, none8, .int .i64 0⟩
theorem at_set (r : List Pl) (i j : Nat) (p : Pl) (hi : i < r.length) : at' (r.set i p) j = if i = j then p else at' r j := by
  unfold at'
  by_cases h : i = j
  · subst h; simp [List.getD, hi]
  · simp [List.getD, h]

def homeL (r : List Pl) (k : ByteArray) : Nat := hashL k % r.length
theorem homeL_lt {r : List Pl} (k : ByteArray) (h : 0 < r.length) : homeL r k < r.length := Nat.mod_lt _ h

/-- Looking for a key. -/
def lookF (r : List Pl) (k : ByteArray) : Nat → Nat → Nat × Bool
  | 0, i => (i, false)
  | f + 1, i => if (at' r i).st = 0 then (i, false) else if (at' r i).st = 1 ∧ (at' r i).key = k then (i, true) else lookF r k f (nx r.length i)
def lookL (r : List Pl) (k : ByteArray) : Nat × Bool := if r.length = 0 then (0, false) else lookF r k r.length (homeL r k)

/-- Laying a key that is not there. -/
def layP (r : List Pl) (k : ByteArray) (v : Value) : List Pl := r.set (lookL r k).1 ⟨1, k, v⟩

/-- Mending: the place that is empty, the one that is looked at. -/
def mendF (z : Value) : Nat → List Pl → Nat → Nat → List Pl
  | 0, r, _, _ => r
  | f + 1, r, i, k => if (at' r k).st = 0 then r else
      if ds r.length (homeL r (at' r k).key) k < ds r.length i k then mendF z f r i (nx r.length k)
      else mendF z f ((r.set i (at' r k)).set k (pz z)) k (nx r.length k)
def mendL (z : Value) (r : List Pl) (i : Nat) : List Pl := mendF z r.length (r.set i (pz z)) i (nx r.length i)

/-- A table. -/
structure Tb where
  row : List Pl
  elder : List Pl
  moved : Nat
  keys : Nat

def Tb.left (T : Tb) : Nat := T.elder.length - T.moved
def newT (z : Value) : Tb := ⟨List.replicate 8 (pz z), [], 0, 0⟩
def one (z : Value) (T : Tb) : Tb :=
  if (at' T.elder T.moved).st = 1 then ⟨layP T.row (at' T.elder T.moved).key (at' T.elder T.moved).val, T.elder.set T.moved (pg z), T.moved + 1, T.keys⟩
  else ⟨T.row, T.elder, T.moved + 1, T.keys⟩
def ones (z : Value) : Nat → Tb → Tb
  | 0, T => T
  | n + 1, T => ones z n (one z T)
def shut (T : Tb) : Tb := if T.left = 0 then ⟨T.row, [], 0, T.keys⟩ else T
def moveT (z : Value) (T : Tb) (places : Int) : Tb := shut (ones z (min places (T.left : Int)).toNat T)
def growT (z : Value) (T : Tb) : Tb := let U := moveT z T (T.left : Int); ⟨List.replicate (2 * U.row.length) (pz z), U.row, 0, U.keys⟩
/-- Where a key lies: the place, whether in the elder row, whether it is there. -/
def placeT (T : Tb) (k : ByteArray) : Nat × Bool × Bool :=
  if (lookL T.row k).2 then ((lookL T.row k).1, false, true) else if (lookL T.elder k).2 then ((lookL T.elder k).1, true, true) else (0, false, false)
def getT (z : Value) (T : Tb) (k : ByteArray) : Value × Bool :=
  if (placeT T k).2.2 then (if (placeT T k).2.1 then ((at' T.elder (placeT T k).1).val, true) else ((at' T.row (placeT T k).1).val, true)) else (z, false)
def putIn (r : List Pl) (i : Nat) (v : Value) : List Pl := r.set i ⟨(at' r i).st, (at' r i).key, v⟩
def putT (z : Value) (T0 : Tb) (k : ByteArray) (v : Value) : Tb :=
  let T := moveT z T0 4
  if (placeT T k).2.2 then
    (if (placeT T k).2.1 then ⟨T.row, putIn T.elder (placeT T k).1 v, T.moved, T.keys⟩ else ⟨putIn T.row (placeT T k).1 v, T.elder, T.moved, T.keys⟩)
  else
    let U := if 3 * T.row.length < 4 * (T.keys + 1) then growT z T else T
    ⟨layP U.row k v, U.elder, U.moved, U.keys + 1⟩
def dropT (z : Value) (T0 : Tb) (k : ByteArray) : Tb :=
  let T := moveT z T0 4
  if (placeT T k).2.2 then
    (if (placeT T k).2.1 then ⟨T.row, T.elder.set (placeT T k).1 (pg z), T.moved, T.keys - 1⟩ else ⟨mendL z T.row (placeT T k).1, T.elder, T.moved, T.keys - 1⟩)
  else T
def dropV (z : Value) (T0 : Tb) (k : ByteArray) : Value × Bool := getT z (moveT z T0 4) k

/-- A row in which there is an empty place. -/
def Emp (r : List Pl) : Prop := ∃ j, j < r.length ∧ (at' r j).st = 0
/-- No place between a key's home and its place is empty. -/
def Prb (r : List Pl) : Prop := ∀ p, p < r.length → (at' r p).st = 1 → ∀ q, q < r.length → ds r.length (homeL r (at' r p).key) q < ds r.length (homeL r (at' r p).key) p → (at' r q).st ≠ 0
/-- A key lies at one place. -/
def Unq (r : List Pl) : Prop := ∀ p q, p < r.length → q < r.length → (at' r p).st = 1 → (at' r q).st = 1 → (at' r p).key = (at' r q).key → p = q
def Fnd (r : List Pl) (k : ByteArray) (i : Nat) : Prop := i < r.length ∧ (at' r i).st = 1 ∧ (at' r i).key = k

/-- What looking tells: the place where it ends, from home on. -/
theorem lookF_spec (r : List Pl) (k : ByteArray) (j : Nat) (hj : j < r.length) (hj0 : (at' r j).st = 0) : ∀ (f i : Nat), i < r.length → ds r.length i j < f →
    (∀ q, q < r.length → ds r.length (homeL r k) q < ds r.length (homeL r k) i → (at' r q).st ≠ 0 ∧ ¬ ((at' r q).st = 1 ∧ (at' r q).key = k)) → ds r.length (homeL r k) i ≤ ds r.length (homeL r k) j →
    (lookF r k f i).1 < r.length ∧ (∀ q, q < r.length → ds r.length (homeL r k) q < ds r.length (homeL r k) (lookF r k f i).1 → (at' r q).st ≠ 0 ∧ ¬ ((at' r q).st = 1 ∧ (at' r q).key = k)) ∧
      (((lookF r k f i).2 = true ∧ (at' r (lookF r k f i).1).st = 1 ∧ (at' r (lookF r k f i).1).key = k) ∨ ((lookF r k f i).2 = false ∧ (at' r (lookF r k f i).1).st = 0))
  | 0, i, _, hf, _, _ => absurd hf (Nat.not_lt_zero _)
  | f + 1, i, hi, hf, hpre, hle => by
    unfold lookF
    by_cases h0 : (at' r i).st = 0
    · rw [if_pos h0]
      exact ⟨hi, hpre, Or.inr ⟨rfl, h0⟩⟩
    · rw [if_neg h0]
      by_cases h1 : (at' r i).st = 1 ∧ (at' r i).key = k
      · rw [if_pos h1]
        exact ⟨hi, hpre, Or.inl ⟨rfl, h1⟩⟩
      · rw [if_neg h1]
        have hne : i ≠ j := by rintro rfl; exact h0 hj0
        have hh := homeL_lt k (show 0 < r.length by omega)
        have h2 := ds_nx hi hj hne
        have h3 : ds r.length (homeL r k) (nx r.length i) = ds r.length (homeL r k) i + 1 := by
          have : ds r.length (homeL r k) i ≠ ds r.length (homeL r k) j := by
            intro e
            apply hne
            unfold ds at e
            split at e <;> split at e <;> omega
          have hlj := ds_lt hh hj
          revert hle this hlj
          generalize homeL r k = h at *
          unfold ds nx
          split <;> split <;> split <;> split <;> omega
        refine lookF_spec r k j hj hj0 f _ (nx_lt hi) (by omega) ?_ ?_
        · intro q hq hlt
          by_cases he : q = i
          · subst he; exact ⟨h0, h1⟩
          · apply hpre q hq
            have : ds r.length (homeL r k) q ≠ ds r.length (homeL r k) i := by
              intro e
              apply he
              unfold ds at e
              split at e <;> split at e <;> omega
            omega
        · have : ds r.length (homeL r k) i ≠ ds r.length (homeL r k) j := by
            intro e
            apply hne
            unfold ds at e
            split at e <;> split at e <;> omega
          omega

theorem lookL_spec {r : List Pl} (k : ByteArray) (he : Emp r) :
    (lookL r k).1 < r.length ∧ (∀ q, q < r.length → ds r.length (homeL r k) q < ds r.length (homeL r k) (lookL r k).1 → (at' r q).st ≠ 0 ∧ ¬ ((at' r q).st = 1 ∧ (at' r q).key = k)) ∧
      (((lookL r k).2 = true ∧ (at' r (lookL r k).1).st = 1 ∧ (at' r (lookL r k).1).key = k) ∨ ((lookL r k).2 = false ∧ (at' r (lookL r k).1).st = 0)) := by
  obtain ⟨j, hj, hj0⟩ := he
  have hp : 0 < r.length := by omega
  have hh := homeL_lt k hp
  unfold lookL
  rw [if_neg (by omega)]
  exact lookF_spec r k j hj hj0 _ _ hh (ds_lt hh hj) (fun q hq h => by rw [ds_self] at h; omega) (by rw [ds_self]; omega)

/-- In a right row a key that is there is found. -/
theorem look_there {r : List Pl} (he : Emp r) (hp : Prb r) (hu : Unq r) {k : ByteArray} {i : Nat} (h : Fnd r k i) : lookL r k = (i, true) := by
  obtain ⟨hi, h1, hk⟩ := h
  obtain ⟨a1, a2, a3⟩ := lookL_spec k he
  have hh := homeL_lt k (show 0 < r.length by omega)
  rcases a3 with ⟨b1, b2, b3⟩ | ⟨b1, b2⟩
  · exact Prod.ext (hu _ _ a1 hi b2 h1 (b3.trans hk.symm)) b1
  · exfalso
    by_cases hlt : ds r.length (homeL r k) (lookL r k).1 < ds r.length (homeL r k) i
    · have := hp i hi h1 (lookL r k).1 a1 (by rw [hk]; exact hlt)
      exact this b2
    · by_cases heq : (lookL r k).1 = i
      · rw [heq, h1] at b2; cases b2
      · have : ds r.length (homeL r k) i ≠ ds r.length (homeL r k) (lookL r k).1 := by
          intro e
          apply heq
          unfold ds at e
          split at e <;> split at e <;> omega
        exact (a2 i hi (by omega)).2 ⟨h1, hk⟩
theorem look_true {r : List Pl} (he : r ≠ [] → Emp r) {k : ByteArray} (h : (lookL r k).2 = true) : Fnd r k (lookL r k).1 := by
  by_cases h0 : r = []
  · subst h0; simp [lookL] at h
  · obtain ⟨a1, _, a3⟩ := lookL_spec k (he h0)
    rcases a3 with ⟨_, b2, b3⟩ | ⟨b1, _⟩
    · exact ⟨a1, b2, b3⟩
    · rw [h] at b1; cases b1
end Go.Proofs.YtgbkihkefdoddaaGreatDoor
end

section
/- Tables: what laying and mending do to a row; what a table keeps. -/
namespace Go.Proofs.YtgbkihkefdoddaaGreatDoor

theorem ds_inj {n h a b : Nat} (ha : a < n) (hb : b < n) (hh : h < n) (e : ds n h a = ds n h b) : a = b := by
  unfold ds at e
  split at e <;> split at e <;> omega

theorem layP_len (r : List Pl) (k : ByteArray) (v : Value) : (layP r k v).length = r.length := by simp [layP]
theorem homeL_len {r s : List Pl} (h : s.length = r.length) (k : ByteArray) : homeL s k = homeL r k := by unfold homeL; rw [h]

/-- How many are taken. -/
def cnt (r : List Pl) : Nat := r.countP (fun p => p.st == 1)
theorem cnt_le (r : List Pl) : cnt r ≤ r.length := List.countP_le_length
theorem at_get {r : List Pl} {i : Nat} (h : i < r.length) : at' r i = r[i] := by simp [at', List.getD, h]
theorem cnt_set (r : List Pl) (i : Nat) (p : Pl) (hi : i < r.length) : cnt (r.set i p) + (if (at' r i).st = 1 then 1 else 0) = cnt r + (if p.st = 1 then 1 else 0) := by
  unfold cnt
  rw [List.countP_set hi, at_get hi]
  have h2 : r[i].st = 1 → 0 < r.countP (fun p => p.st == 1) := fun h => List.countP_pos_iff.2 ⟨r[i], List.getElem_mem hi, by simp [h]⟩
  by_cases h1 : r[i].st = 1
  · have := h2 h1
    simp only [h1, beq_self_eq_true, if_true]
    by_cases h3 : p.st = 1 <;> simp [h3] <;> omega
  · by_cases h3 : p.st = 1 <;> simp [h1, h3]
theorem emp_of {r : List Pl} (hs : ∀ i, i < r.length → (at' r i).st ≤ 1) (hc : cnt r < r.length) : Emp r := by
  rcases Classical.em (Emp r) with h | h
  · exact h
  · exfalso
    have : ∀ i, i < r.length → (at' r i).st = 1 := by
      intro i hi
      have h1 := hs i hi
      have h2 : (at' r i).st ≠ 0 := fun e => h ⟨i, hi, e⟩
      omega
    have h3 : cnt r = r.length := by
      unfold cnt
      rw [List.countP_eq_length]
      intro p hp
      obtain ⟨i, hi, rfl⟩ := List.mem_iff_getElem.1 hp
      have := this i hi
      rw [at_get hi] at this
      simp [this]
    omega

/-- What lies in a row. -/
def Ent (r : List Pl) (k : ByteArray) (v : Value) : Prop := ∃ p, p < r.length ∧ at' r p = ⟨1, k, v⟩
theorem Ent.fnd {r : List Pl} {k : ByteArray} {v : Value} (h : Ent r k v) : ∃ i, Fnd r k i := by
  obtain ⟨p, hp, e⟩ := h
  exact ⟨p, hp, by rw [e], by rw [e]⟩
theorem Fnd.ent {r : List Pl} {k : ByteArray} {i : Nat} (h : Fnd r k i) : Ent r k (at' r i).val := by
  obtain ⟨h1, h2, h3⟩ := h
  refine ⟨i, h1, ?_⟩
  rw [← h2, ← h3]

section lay
variable {r : List Pl} {k : ByteArray} (v : Value)
theorem lay_at (he : Emp r) (hn : ¬ ∃ i, Fnd r k i) : (lookL r k).1 < r.length ∧ (at' r (lookL r k).1).st = 0 ∧ (lookL r k).2 = false := by
  obtain ⟨a1, _, a3⟩ := lookL_spec k he
  rcases a3 with ⟨_, b2, b3⟩ | ⟨b1, b2⟩
  · exact absurd ⟨_, a1, b2, b3⟩ hn
  · exact ⟨a1, b2, b1⟩
theorem lay_prb (he : Emp r) (hn : ¬ ∃ i, Fnd r k i) (hp : Prb r) : Prb (layP r k v) := by
  obtain ⟨a1, a0, _⟩ := lay_at he hn
  obtain ⟨_, a2, _⟩ := lookL_spec k he
  intro p hp1 hp2 q hq hlt
  rw [homeL_len (layP_len r k v)] at hlt
  rw [layP_len] at hp1 hq hlt
  unfold layP at hp2 hlt ⊢
  rw [at_set _ _ _ _ a1] at hp2 hlt ⊢
  by_cases h1 : (lookL r k).1 = q
  · rw [if_pos h1]; simp
  · rw [if_neg h1]
    by_cases h2 : (lookL r k).1 = p
    · rw [if_pos h2] at hlt
      subst h2
      exact (a2 q hq hlt).1
    · rw [if_neg h2] at hlt hp2
      exact hp p hp1 hp2 q hq hlt
theorem lay_unq (he : Emp r) (hn : ¬ ∃ i, Fnd r k i) (hu : Unq r) : Unq (layP r k v) := by
  obtain ⟨a1, a0, _⟩ := lay_at he hn
  intro p q hp hq h1 h2 hk
  rw [layP_len] at hp hq
  unfold layP at h1 h2 hk
  rw [at_set _ _ _ _ a1] at h1 h2 hk
  rw [at_set _ _ _ _ a1] at hk
  by_cases e1 : (lookL r k).1 = p
  · by_cases e2 : (lookL r k).1 = q
    · omega
    · rw [if_pos e1, if_neg e2] at hk
      rw [if_neg e2] at h2
      exact absurd ⟨q, hq, h2, hk.symm⟩ hn
  · by_cases e2 : (lookL r k).1 = q
    · rw [if_neg e1, if_pos e2] at hk
      rw [if_neg e1] at h1
      exact absurd ⟨p, hp, h1, hk⟩ hn
    · rw [if_neg e1, if_neg e2] at hk
      rw [if_neg e1] at h1
      rw [if_neg e2] at h2
      exact hu p q hp hq h1 h2 hk
theorem lay_ent (he : Emp r) (hn : ¬ ∃ i, Fnd r k i) (k' : ByteArray) (v' : Value) : Ent (layP r k v) k' v' ↔ (k' = k ∧ v' = v) ∨ Ent r k' v' := by
  obtain ⟨a1, a0, _⟩ := lay_at he hn
  constructor
  · rintro ⟨p, hp, e⟩
    rw [layP_len] at hp
    unfold layP at e
    rw [at_set _ _ _ _ a1] at e
    by_cases h : (lookL r k).1 = p
    · rw [if_pos h] at e
      simp only [Pl.mk.injEq, true_and] at e
      exact Or.inl ⟨e.1.symm, e.2.symm⟩
    · rw [if_neg h] at e
      exact Or.inr ⟨p, hp, e⟩
  · rintro (⟨rfl, rfl⟩ | ⟨p, hp, e⟩)
    · exact ⟨(lookL r k').1, by rw [layP_len]; exact a1, by unfold layP; rw [at_set _ _ _ _ a1, if_pos rfl]⟩
    · refine ⟨p, by rw [layP_len]; exact hp, ?_⟩
      unfold layP
      rw [at_set _ _ _ _ a1, if_neg]
      · exact e
      · rintro rfl; rw [e] at a0; cases a0
theorem lay_cnt (he : Emp r) (hn : ¬ ∃ i, Fnd r k i) : cnt (layP r k v) = cnt r + 1 := by
  obtain ⟨a1, a0, _⟩ := lay_at he hn
  have := cnt_set r _ ⟨1, k, v⟩ a1
  unfold layP
  rw [a0] at this
  simpa using this
theorem lay_st (he : Emp r) (hn : ¬ ∃ i, Fnd r k i) (hs : ∀ i, i < r.length → (at' r i).st ≤ 1) : ∀ i, i < (layP r k v).length → (at' (layP r k v) i).st ≤ 1 := by
  obtain ⟨a1, _, _⟩ := lay_at he hn
  intro i hi
  rw [layP_len] at hi
  unfold layP
  rw [at_set _ _ _ _ a1]
  by_cases h : (lookL r k).1 = i
  · rw [if_pos h]; exact Nat.le_refl _
  · rw [if_neg h]; exact hs i hi
end lay

/-- Amid mending: the place i is empty, k is looked at, j is another empty one. -/
structure Mid (r : List Pl) (i k j : Nat) : Prop where
  hi : i < r.length
  hk : k < r.length
  hj : j < r.length
  i0 : (at' r i).st = 0
  j0 : (at' r j).st = 0
  ij : j ≠ i
  ik : k ≠ i
  le : ds r.length i k ≤ ds r.length i j
  path : ∀ p, p < r.length → (at' r p).st = 1 → ∀ q, q < r.length → ds r.length (homeL r (at' r p).key) q < ds r.length (homeL r (at' r p).key) p → (at' r q).st = 0 → q = i ∧ ds r.length i k ≤ ds r.length i p
  st : ∀ p, p < r.length → (at' r p).st ≤ 1
  unq : Unq r

theorem Mid.done {r : List Pl} {i k j : Nat} (h : Mid r i k j) (hk0 : (at' r k).st = 0) : Prb r := by
  intro p hp h1 q hq hlt h0
  obtain ⟨rfl, h2⟩ := h.path p hp h1 q hq hlt h0
  have hpk : p ≠ k := by rintro rfl; rw [h1] at hk0; cases hk0
  have hh := homeL_lt (at' r p).key (show 0 < r.length by have := h.hi; omega)
  have h3 : ds r.length (homeL r (at' r p).key) k < ds r.length (homeL r (at' r p).key) p := by
    have e1 : ds r.length q k ≠ ds r.length q p := fun e => hpk (ds_inj h.hk hp hq e).symm
    have hk := h.hk
    generalize homeL r (at' r p).key = m at *
    clear h
    revert hlt h2 e1
    unfold ds
    split <;> split <;> split <;> split <;> split <;> omega
  exact h.ik (h.path p hp h1 k h.hk h3 hk0).1

theorem Mid.skip {r : List Pl} {i k j : Nat} (h : Mid r i k j) (hk1 : (at' r k).st ≠ 0) (hc : ds r.length (homeL r (at' r k).key) k < ds r.length i k) : Mid r i (nx r.length k) j := by
  have hkj : k ≠ j := by rintro rfl; exact hk1 h.j0
  have e1 : ds r.length i k ≠ ds r.length i j := fun e => hkj (ds_inj h.hk h.hj h.hi e)
  have hjl := ds_lt h.hi h.hj
  have hle := h.le
  have hk := h.hk
  have hi := h.hi
  have hj := h.hj
  have hnx : ds r.length i (nx r.length k) = ds r.length i k + 1 := by
    revert hle e1 hjl
    unfold ds nx
    split <;> split <;> split <;> split <;> omega
  refine ⟨h.hi, nx_lt h.hk, h.hj, h.i0, h.j0, h.ij, ?_, by omega, ?_, h.st, h.unq⟩
  · intro e
    rw [e, ds_self] at hnx
    omega
  · intro p hp h1 q hq hlt h0
    obtain ⟨rfl, h2⟩ := h.path p hp h1 q hq hlt h0
    refine ⟨rfl, ?_⟩
    rw [hnx]
    by_cases hpk : p = k
    · subst hpk
      exfalso
      have hh := homeL_lt (at' r p).key (show 0 < r.length by omega)
      generalize homeL r (at' r p).key = m at *
      revert hlt hc
      unfold ds
      split <;> split <;> split <;> omega
    · have e2 : ds r.length q k ≠ ds r.length q p := fun e => hpk (ds_inj h.hk hp hq e).symm
      omega

/-- A key goes up. -/
def up1 (z : Value) (r : List Pl) (i k : Nat) : List Pl := (r.set i (at' r k)).set k (pz z)
theorem up1_len (z : Value) (r : List Pl) (i k : Nat) : (up1 z r i k).length = r.length := by simp [up1]
theorem up1_at (z : Value) {r : List Pl} {i k : Nat} (hi : i < r.length) (hk : k < r.length) (p : Nat) : at' (up1 z r i k) p = if k = p then pz z else if i = p then at' r k else at' r p := by
  unfold up1
  rw [at_set _ _ _ _ (by simpa using hk), at_set _ _ _ _ hi]
theorem Mid.up {z : Value} {r : List Pl} {i k j : Nat} (h : Mid r i k j) (hk1 : (at' r k).st ≠ 0) (hc : ¬ ds r.length (homeL r (at' r k).key) k < ds r.length i k) : Mid (up1 z r i k) k (nx r.length k) j := by
  have hkj : k ≠ j := by rintro rfl; exact hk1 h.j0
  have hk := h.hk
  have hi := h.hi
  have hj := h.hj
  have hst : (at' r k).st = 1 := by have := h.st k hk; omega
  have hA := up1_at z hi hk
  have hL := up1_len z r i k
  have hik := h.ik
  have hij := h.ij
  refine ⟨by rw [hL]; exact hk, by rw [hL]; exact nx_lt hk, by rw [hL]; exact hj, by rw [hA, if_pos rfl]; rfl, ?_, fun e => hkj e.symm, ?_, ?_, ?_, ?_, ?_⟩
  · rw [hA, if_neg hkj, if_neg (fun e => hij e.symm)]; exact h.j0
  · have := hi
    unfold nx
    split <;> omega
  · rw [hL]
    revert hkj
    unfold ds nx
    split <;> split <;> split <;> omega
  · intro p hp h1 q hq hlt h0
    rw [homeL_len hL] at hlt
    rw [hL] at hp hq hlt ⊢
    rw [hA] at h1 hlt h0
    have hpk : k ≠ p := by rintro rfl; rw [if_pos rfl] at h1; cases h1
    rw [if_neg hpk] at h1 hlt
    have hq : k = q := by
      rcases Classical.em (k = q) with e | e
      · exact e
      · exfalso
        rw [if_neg e] at h0
        by_cases e2 : i = q
        · rw [if_pos e2] at h0; omega
        · rw [if_neg e2] at h0
          by_cases e3 : i = p
          · rw [if_pos e3] at hlt
            subst e3
            have hh := homeL_lt (at' r k).key (show 0 < r.length by omega)
            have h5 : ds r.length (homeL r (at' r k).key) q < ds r.length (homeL r (at' r k).key) k := by
              generalize homeL r (at' r k).key = m at *
              revert hlt hc
              unfold ds
              split <;> split <;> split <;> split <;> omega
            exact e2 (h.path k hk hst q hq h5 h0).1.symm
          · rw [if_neg e3] at hlt h1
            exact e2 (h.path p hp h1 q hq hlt h0).1.symm
    refine ⟨hq.symm, ?_⟩
    have e2 : ds r.length k p ≠ ds r.length k k := fun e => hpk (ds_inj hp hk hk e).symm
    rw [ds_self] at e2
    have : ds r.length k (nx r.length k) ≤ 1 := by
      unfold ds nx
      split <;> split <;> omega
    omega
  · intro p hp
    rw [hL] at hp
    rw [hA]
    split
    · exact Nat.zero_le _
    · split
      · exact h.st k hk
      · exact h.st p hp
  · intro p q hp hq h1 h2 hkey
    rw [hL] at hp hq
    rw [hA] at h1 h2 hkey
    rw [hA] at hkey
    have hpk : k ≠ p := by rintro rfl; rw [if_pos rfl] at h1; cases h1
    have hqk : k ≠ q := by rintro rfl; rw [if_pos rfl] at h2; cases h2
    rw [if_neg hpk] at h1 hkey
    rw [if_neg hqk] at h2 hkey
    by_cases e1 : i = p
    · by_cases e2 : i = q
      · omega
      · rw [if_pos e1, if_neg e2] at hkey
        rw [if_neg e2] at h2
        exact absurd (h.unq k q hk hq hst h2 hkey) hqk
    · by_cases e2 : i = q
      · rw [if_neg e1, if_pos e2] at hkey
        rw [if_neg e1] at h1
        exact absurd (h.unq p k hp hk h1 hst hkey).symm hpk
      · rw [if_neg e1, if_neg e2] at hkey
        rw [if_neg e1] at h1
        rw [if_neg e2] at h2
        exact h.unq p q hp hq h1 h2 hkey
theorem Mid.up_ent {z : Value} {r : List Pl} {i k j : Nat} (h : Mid r i k j) (k' : ByteArray) (v' : Value) : Ent (up1 z r i k) k' v' ↔ Ent r k' v' := by
  have hk := h.hk
  have hi := h.hi
  have hA := up1_at z hi hk
  have hL := up1_len z r i k
  have hik := h.ik
  have i0 := h.i0
  constructor
  · rintro ⟨p, hp, e⟩
    rw [hL] at hp
    rw [hA] at e
    split at e
    · simp [pz] at e
    · split at e
      · exact ⟨k, hk, e⟩
      · exact ⟨p, hp, e⟩
  · rintro ⟨p, hp, e⟩
    by_cases h1 : k = p
    · subst h1
      exact ⟨i, by rw [hL]; exact hi, by rw [hA, if_neg hik, if_pos rfl]; exact e⟩
    · refine ⟨p, by rw [hL]; exact hp, ?_⟩
      rw [hA, if_neg h1, if_neg]
      · exact e
      · rintro rfl; rw [e] at i0; cases i0
theorem Mid.up_cnt {z : Value} {r : List Pl} {i k j : Nat} (h : Mid r i k j) : cnt (up1 z r i k) = cnt r := by
  have hk := h.hk
  have hi := h.hi
  have i0 := h.i0
  have h1 := cnt_set r i (at' r k) hi
  have h2 := cnt_set (r.set i (at' r k)) k (pz z) (by simpa using hk)
  have h3 : at' (r.set i (at' r k)) k = at' r k := by rw [at_set _ _ _ _ hi]; split <;> rfl
  rw [h3] at h2
  rw [i0] at h1
  have h4 : (pz z).st = 0 := rfl
  rw [h4] at h2
  simp at h1 h2
  unfold up1
  omega

theorem mendF_spec (z : Value) (j : Nat) : ∀ (f : Nat) (r : List Pl) (i k : Nat), Mid r i k j → ds r.length k j < f →
    (mendF z f r i k).length = r.length ∧ Prb (mendF z f r i k) ∧ Unq (mendF z f r i k) ∧ (∀ p, p < r.length → (at' (mendF z f r i k) p).st ≤ 1) ∧ cnt (mendF z f r i k) = cnt r ∧ ∀ k' v', Ent (mendF z f r i k) k' v' ↔ Ent r k' v'
  | 0, r, i, k, _, hf => absurd hf (Nat.not_lt_zero _)
  | f + 1, r, i, k, h, hf => by
    unfold mendF
    by_cases h0 : (at' r k).st = 0
    · rw [if_pos h0]
      exact ⟨rfl, h.done h0, h.unq, h.st, rfl, fun _ _ => Iff.rfl⟩
    · rw [if_neg h0]
      have hkj : k ≠ j := by rintro rfl; exact h0 h.j0
      have h2 := ds_nx h.hk h.hj hkj
      by_cases hc : ds r.length (homeL r (at' r k).key) k < ds r.length i k
      · rw [if_pos hc]
        exact mendF_spec z j f r i _ (h.skip h0 hc) (by omega)
      · rw [if_neg hc]
        have hL := up1_len z r i k
        have := mendF_spec z j f (up1 z r i k) k (nx r.length k) (h.up h0 hc) (by rw [hL]; omega)
        rw [hL] at this
        obtain ⟨b1, b2, b3, b4, b5, b6⟩ := this
        exact ⟨b1, b2, b3, b4, b5.trans h.up_cnt, fun k' v' => (b6 k' v').trans (h.up_ent k' v')⟩

/-- Mending, behind what made the place empty. -/
theorem mend_mid {z : Value} {r : List Pl} {i j : Nat} (hi : i < r.length) (hj : j < r.length) (hi1 : (at' r i).st = 1) (hj0 : (at' r j).st = 0) (hp : Prb r) (hu : Unq r) (hs : ∀ p, p < r.length → (at' r p).st ≤ 1) :
    Mid (r.set i (pz z)) i (nx r.length i) j := by
  have hij : j ≠ i := by rintro rfl; rw [hi1] at hj0; cases hj0
  have hA : ∀ p, at' (r.set i (pz z)) p = if i = p then pz z else at' r p := fun p => at_set _ _ _ _ hi
  have hL : (r.set i (pz z)).length = r.length := by simp
  have hn1 : ds r.length i (nx r.length i) ≤ 1 := by
    unfold ds nx
    split <;> split <;> omega
  refine ⟨by rw [hL]; exact hi, by rw [hL]; exact nx_lt hi, by rw [hL]; exact hj, by rw [hA, if_pos rfl]; rfl, by rw [hA, if_neg (fun e => hij e.symm)]; exact hj0, hij, ?_, ?_, ?_, ?_, ?_⟩
  · unfold nx
    split <;> omega
  · rw [hL]
    have : ds r.length i j ≠ ds r.length i i := fun e => hij (ds_inj hj hi hi e)
    rw [ds_self] at this
    omega
  · intro p hp1 h1 q hq hlt h0
    rw [homeL_len hL] at hlt
    rw [hL] at hp1 hq hlt ⊢
    rw [hA] at h1 hlt h0
    have hpi : i ≠ p := by rintro rfl; rw [if_pos rfl] at h1; cases h1
    rw [if_neg hpi] at h1 hlt
    have : ds r.length i p ≠ ds r.length i i := fun e => hpi (ds_inj hp1 hi hi e).symm
    rw [ds_self] at this
    refine ⟨?_, by omega⟩
    rcases Classical.em (i = q) with e | e
    · exact e.symm
    · rw [if_neg e] at h0
      exact absurd h0 (hp p hp1 h1 q hq hlt)
  · intro p hp1
    rw [hL] at hp1
    rw [hA]
    split
    · exact Nat.zero_le _
    · exact hs p hp1
  · intro p q hp1 hq h1 h2 hkey
    rw [hL] at hp1 hq
    rw [hA] at h1 h2 hkey
    rw [hA] at hkey
    have hpi : i ≠ p := by rintro rfl; rw [if_pos rfl] at h1; cases h1
    have hqi : i ≠ q := by rintro rfl; rw [if_pos rfl] at h2; cases h2
    rw [if_neg hpi] at h1 hkey
    rw [if_neg hqi] at h2 hkey
    exact hu p q hp1 hq h1 h2 hkey

theorem mend_spec (z : Value) {r : List Pl} {i j : Nat} (hi : i < r.length) (hj : j < r.length) (hi1 : (at' r i).st = 1) (hj0 : (at' r j).st = 0) (hp : Prb r) (hu : Unq r) (hs : ∀ p, p < r.length → (at' r p).st ≤ 1) :
    (mendL z r i).length = r.length ∧ Prb (mendL z r i) ∧ Unq (mendL z r i) ∧ (∀ p, p < r.length → (at' (mendL z r i) p).st ≤ 1) ∧ cnt (mendL z r i) + 1 = cnt r ∧ ∀ k' v', Ent (mendL z r i) k' v' ↔ (k' ≠ (at' r i).key ∧ Ent r k' v') := by
  have hm := mend_mid (z := z) hi hj hi1 hj0 hp hu hs
  have hL : (r.set i (pz z)).length = r.length := by simp
  have hA : ∀ p, at' (r.set i (pz z)) p = if i = p then pz z else at' r p := fun p => at_set _ _ _ _ hi
  have hS := mendF_spec z j r.length _ _ _ hm (by rw [hL]; exact ds_lt (nx_lt hi) hj)
  rw [hL] at hS
  obtain ⟨b1, b2, b3, b4, b5, b6⟩ := hS
  refine ⟨b1, b2, b3, b4, ?_, ?_⟩
  · have := cnt_set r i (pz z) hi
    rw [hi1] at this
    simp [pz] at this
    unfold mendL
    rw [b5]
    exact this
  · intro k' v'
    rw [show Ent (mendL z r i) k' v' ↔ _ from b6 k' v']
    constructor
    · rintro ⟨p, hp1, e⟩
      rw [hL] at hp1
      rw [hA] at e
      split at e
      · simp [pz] at e
      · rename_i hne
        refine ⟨fun ek => hne (hu i p hi hp1 hi1 (by rw [e]) (by rw [e, ek])), p, hp1, e⟩
    · rintro ⟨hne, p, hp1, e⟩
      refine ⟨p, by rw [hL]; exact hp1, ?_⟩
      rw [hA, if_neg]
      · exact e
      · rintro rfl; rw [e] at hne; exact hne rfl
end Go.Proofs.YtgbkihkefdoddaaGreatDoor
end

section
/- Tables: what every call keeps (Inv), and what lies under keys (Has): P607. -/
namespace Go.Proofs.YtgbkihkefdoddaaGreatDoor

/-- What a table keeps, also amid moving. -/
structure Inv0 (T : Tb) : Prop where
  pos : 8 ≤ T.row.length
  st : ∀ i, i < T.row.length → (at' T.row i).st ≤ 1
  prb : Prb T.row
  unq : Unq T.row
  eprb : Prb T.elder
  eunq : Unq T.elder
  emp : T.elder ≠ [] → Emp T.elder
  half : T.elder ≠ [] → T.elder.length * 2 = T.row.length
  mv : T.moved ≤ T.elder.length
  apart : ∀ k i j, Fnd T.row k i → Fnd T.elder k j → False
  keys : T.keys = cnt T.row + cnt T.elder
  room : 4 * T.keys ≤ 3 * T.row.length
  past : ∀ i, i < T.moved → (at' T.elder i).st ≠ 1
structure Inv (T : Tb) : Prop where
  i0 : Inv0 T
  shut : T.left = 0 → T.elder = []

theorem Inv0.row_emp {T : Tb} (h : Inv0 T) : Emp T.row := emp_of h.st (by have := h.keys; have := h.room; have := h.pos; omega)
/-- What lies under a key. -/
def Has (T : Tb) (k : ByteArray) (v : Value) : Prop := Ent T.row k v ∨ Ent T.elder k v

theorem at_nil (i : Nat) : at' [] i = ⟨0, none8, .int .i64 0⟩ := by simp [at']
theorem at_out {r : List Pl} {i : Nat} (h : r.length ≤ i) : (at' r i).st = 0 := by unfold at'; rw [List.getD_eq_getElem?_getD, List.getElem?_eq_none h]; rfl

theorem at_rep (z : Value) {n i : Nat} (h : i < n) : at' (List.replicate n (pz z)) i = pz z := by
  unfold at'
  rw [List.getD_eq_getElem?_getD, List.getElem?_replicate, if_pos h]
  rfl
theorem cnt_rep (z : Value) (n : Nat) : cnt (List.replicate n (pz z)) = 0 := by
  unfold cnt
  rw [List.countP_replicate]
  rfl
theorem new_inv (z : Value) : Inv (newT z) := by
  have h0 : ∀ i, i < 8 → at' (List.replicate 8 (pz z)) i = pz z := fun i hi => at_rep z hi
  refine ⟨⟨by simp [newT], ?_, ?_, ?_, ?_, ?_, ?_, ?_, ?_, ?_, ?_, ?_, ?_⟩, fun _ => rfl⟩
  · intro i hi
    simp [newT] at hi
    rw [show (newT z).row = List.replicate 8 (pz z) from rfl, h0 i hi]
    exact Nat.zero_le _
  · intro p hp h1
    simp [newT] at hp
    rw [show (newT z).row = List.replicate 8 (pz z) from rfl, h0 p hp] at h1
    cases h1
  · intro p q hp _ h1
    simp [newT] at hp
    rw [show (newT z).row = List.replicate 8 (pz z) from rfl, h0 p hp] at h1
    cases h1
  · intro p hp; simp [newT] at hp
  · intro p q hp; simp [newT] at hp
  · intro h; exact absurd rfl h
  · intro h; exact absurd rfl h
  · exact Nat.zero_le _
  · intro k i j _ hj
    have := hj.1
    simp [newT] at this
  · show 0 = cnt (List.replicate 8 (pz z)) + 0
    rw [cnt_rep]
  · simp [newT]
  · intro i hi; simp [newT] at hi
theorem new_has (z : Value) (k : ByteArray) (v : Value) : ¬ Has (newT z) k v := by
  rintro (⟨p, hp, e⟩ | ⟨p, hp, e⟩)
  · simp [newT] at hp
    rw [show (newT z).row = List.replicate 8 (pz z) from rfl] at e
    rw [at_rep z hp] at e
    simp [pz] at e
  · simp [newT] at hp

/-- A gone place in the place of a taken one. -/
theorem gone_facts (z : Value) {r : List Pl} {m : Nat} (hm : m < r.length) (h1 : (at' r m).st = 1) (hp : Prb r) (hu : Unq r) (he : Emp r) :
    Prb (r.set m (pg z)) ∧ Unq (r.set m (pg z)) ∧ Emp (r.set m (pg z)) ∧ cnt (r.set m (pg z)) + 1 = cnt r ∧ (∀ k v, Ent (r.set m (pg z)) k v ↔ (k ≠ (at' r m).key ∧ Ent r k v)) := by
  have hA : ∀ p, at' (r.set m (pg z)) p = if m = p then pg z else at' r p := fun p => at_set _ _ _ _ hm
  have hL : (r.set m (pg z)).length = r.length := by simp
  refine ⟨?_, ?_, ?_, ?_, ?_⟩
  · intro p hp1 h2 q hq hlt
    rw [homeL_len hL] at hlt
    rw [hL] at hp1 hq hlt
    rw [hA] at h2 hlt ⊢
    have hpm : m ≠ p := by rintro rfl; rw [if_pos rfl] at h2; cases h2
    rw [if_neg hpm] at h2 hlt
    split
    · simp [pg]
    · exact hp p hp1 h2 q hq hlt
  · intro p q hp1 hq h2 h3 hk
    rw [hL] at hp1 hq
    rw [hA] at h2 h3 hk
    rw [hA] at hk
    have hpm : m ≠ p := by rintro rfl; rw [if_pos rfl] at h2; cases h2
    have hqm : m ≠ q := by rintro rfl; rw [if_pos rfl] at h3; cases h3
    rw [if_neg hpm] at h2 hk
    rw [if_neg hqm] at h3 hk
    exact hu p q hp1 hq h2 h3 hk
  · obtain ⟨j, hj, hj0⟩ := he
    refine ⟨j, by rw [hL]; exact hj, ?_⟩
    rw [hA, if_neg]
    · exact hj0
    · rintro rfl; rw [h1] at hj0; cases hj0
  · have := cnt_set r m (pg z) hm
    have h4 : (pg z).st = 2 := rfl
    rw [h1, h4] at this
    simpa using this
  · intro k v
    constructor
    · rintro ⟨p, hp1, e⟩
      rw [hL] at hp1
      rw [hA] at e
      split at e
      · simp [pg] at e
      · rename_i hne
        exact ⟨fun ek => hne (hu m p hm hp1 h1 (by rw [e]) (by rw [e, ek])), p, hp1, e⟩
    · rintro ⟨hne, p, hp1, e⟩
      refine ⟨p, by rw [hL]; exact hp1, ?_⟩
      rw [hA, if_neg]
      · exact e
      · rintro rfl; rw [e] at hne; exact hne rfl

theorem ent_one {r : List Pl} (hu : Unq r) {k : ByteArray} {v w : Value} (h : Ent r k v) (h2 : Ent r k w) : v = w := by
  obtain ⟨p, hp, e⟩ := h
  obtain ⟨q, hq, e2⟩ := h2
  have := hu p q hp hq (by rw [e]) (by rw [e2]) (by rw [e, e2])
  subst this
  rw [e] at e2
  simpa using e2

theorem one_inv (z : Value) {T : Tb} (h : Inv0 T) (hm : T.moved < T.elder.length) : Inv0 (one z T) ∧ (∀ k v, Has (one z T) k v ↔ Has T k v) ∧ (one z T).moved = T.moved + 1 ∧ (one z T).elder.length = T.elder.length ∧ (one z T).row.length = T.row.length ∧ (one z T).keys = T.keys := by
  have hne : T.elder ≠ [] := by intro e; rw [e] at hm; simp at hm
  unfold one
  by_cases h1 : (at' T.elder T.moved).st = 1
  · rw [if_pos h1]
    generalize hk : (at' T.elder T.moved).key = k
    generalize hv : (at' T.elder T.moved).val = v
    have hF : Fnd T.elder k T.moved := ⟨hm, h1, hk⟩
    have hEnt : Ent T.elder k v := by have := hF.ent; rw [hv] at this; exact this
    have hno : ¬ ∃ i, Fnd T.row k i := fun ⟨i, hi⟩ => h.apart k i _ hi hF
    have he := h.row_emp
    obtain ⟨g1, g2, g3, g4, g5⟩ := gone_facts z hm h1 h.eprb h.eunq (h.emp hne)
    rw [hk] at g5
    have hlay := lay_ent v he hno
    refine ⟨⟨?_, ?_, lay_prb v he hno h.prb, lay_unq v he hno h.unq, g1, g2, fun _ => g3, ?_, ?_, ?_, ?_, ?_, ?_⟩, ?_, rfl, by simp, layP_len _ _ _, rfl⟩
    · show 8 ≤ (layP T.row k v).length
      rw [layP_len]; exact h.pos
    · exact lay_st v he hno h.st
    · intro _
      show (T.elder.set T.moved (pg z)).length * 2 = (layP T.row k v).length
      rw [layP_len, List.length_set]
      exact h.half hne
    · show T.moved + 1 ≤ (T.elder.set T.moved (pg z)).length
      rw [List.length_set]; omega
    · intro k' i j hi hj
      obtain ⟨n1, n2⟩ := (g5 k' _).1 (Fnd.ent hj)
      rcases (hlay k' _).1 (Fnd.ent hi) with ⟨rfl, _⟩ | h3
      · exact n1 rfl
      · obtain ⟨a, ha⟩ := h3.fnd
        obtain ⟨b, hb⟩ := n2.fnd
        exact h.apart k' a b ha hb
    · show T.keys = cnt (layP T.row k v) + cnt (T.elder.set T.moved (pg z))
      have := lay_cnt v he hno
      have := h.keys
      omega
    · show 4 * T.keys ≤ 3 * (layP T.row k v).length
      rw [layP_len]; exact h.room
    · intro i hi
      show (at' (T.elder.set T.moved (pg z)) i).st ≠ 1
      rw [at_set _ _ _ _ hm]
      split
      · simp [pg]
      · rename_i hne2
        exact h.past i (by simp only at hi; omega)
    · intro k' v'
      show Ent (layP T.row k v) k' v' ∨ Ent (T.elder.set T.moved (pg z)) k' v' ↔ _
      rw [hlay, g5]
      constructor
      · rintro ((⟨rfl, rfl⟩ | h3) | h3)
        · exact Or.inr hEnt
        · exact Or.inl h3
        · exact Or.inr h3.2
      · rintro (h3 | h3)
        · exact Or.inl (Or.inr h3)
        · by_cases e : k' = k
          · subst e
            exact Or.inl (Or.inl ⟨rfl, ent_one h.eunq h3 hEnt⟩)
          · exact Or.inr ⟨e, h3⟩
  · rw [if_neg h1]
    refine ⟨⟨h.pos, h.st, h.prb, h.unq, h.eprb, h.eunq, h.emp, h.half, hm, h.apart, h.keys, h.room, ?_⟩, fun _ _ => Iff.rfl, rfl, rfl, rfl, rfl⟩
    intro i hi
    show (at' T.elder i).st ≠ 1
    by_cases e : i = T.moved
    · rw [e]; exact h1
    · exact h.past i (by simp only at hi; omega)

theorem ones_inv (z : Value) : ∀ (n : Nat) {T : Tb}, Inv0 T → n ≤ T.left → Inv0 (ones z n T) ∧ (∀ k v, Has (ones z n T) k v ↔ Has T k v) ∧ (ones z n T).moved = T.moved + n ∧ (ones z n T).elder.length = T.elder.length ∧ (ones z n T).row.length = T.row.length ∧ (ones z n T).keys = T.keys
  | 0, T, h, _ => ⟨h, fun _ _ => Iff.rfl, rfl, rfl, rfl, rfl⟩
  | n + 1, T, h, hn => by
    unfold Tb.left at hn
    obtain ⟨a1, a2, a3, a4, a5, a6⟩ := one_inv z h (by omega)
    obtain ⟨b1, b2, b3, b4, b5, b6⟩ := ones_inv z n a1 (by unfold Tb.left; omega)
    exact ⟨b1, fun k v => (b2 k v).trans (a2 k v), by rw [show ones z (n + 1) T = ones z n (one z T) from rfl, b3, a3]; omega, b4.trans a4, b5.trans a5, b6.trans a6⟩

theorem shut_inv {T : Tb} (h : Inv0 T) : Inv (shut T) ∧ (∀ k v, Has (shut T) k v ↔ Has T k v) ∧ (shut T).left = T.left ∧ (shut T).row = T.row ∧ (shut T).keys = T.keys := by
  unfold shut
  by_cases h0 : T.left = 0
  · rw [if_pos h0]
    have hm : T.moved = T.elder.length := by have := h.mv; unfold Tb.left at h0; omega
    have hno : ∀ k v, ¬ Ent T.elder k v := by
      rintro k v ⟨p, hp, e⟩
      exact h.past p (by omega) (by rw [e])
    have hc0 : cnt T.elder = 0 := by
      unfold cnt
      rw [List.countP_eq_zero]
      intro p hp
      obtain ⟨i, hi, rfl⟩ := List.mem_iff_getElem.1 hp
      have := h.past i (by omega)
      rw [at_get hi] at this
      simpa using this
    refine ⟨⟨⟨h.pos, h.st, h.prb, h.unq, ?_, ?_, ?_, ?_, Nat.le_refl _, ?_, ?_, h.room, ?_⟩, fun _ => rfl⟩, ?_, ?_, rfl, rfl⟩
    · intro p hp; simp at hp
    · intro p q hp; simp at hp
    · intro h; exact absurd rfl h
    · intro h; exact absurd rfl h
    · intro k i j _ hj
      have := hj.1
      simp at this
    · show T.keys = cnt T.row + cnt []
      have := h.keys
      rw [hc0] at this
      exact this
    · intro i hi; simp at hi
    · intro k v
      constructor
      · rintro (h1 | ⟨p, hp, _⟩)
        · exact Or.inl h1
        · simp at hp
      · rintro (h1 | h1)
        · exact Or.inl h1
        · exact absurd h1 (hno k v)
    · rw [h0]; rfl
  · rw [if_neg h0]
    exact ⟨⟨h, fun e => absurd e h0⟩, fun _ _ => Iff.rfl, rfl, rfl, rfl⟩

/-- Move keeps what lies under keys. -/
theorem move_inv (z : Value) {T : Tb} (h : Inv0 T) (n : Int) : Inv (moveT z T n) ∧ (∀ k v, Has (moveT z T n) k v ↔ Has T k v) ∧ (moveT z T n).left = T.left - (min n (T.left : Int)).toNat ∧ (moveT z T n).row.length = T.row.length ∧ (moveT z T n).keys = T.keys := by
  have hle : (min n (T.left : Int)).toNat ≤ T.left := by omega
  obtain ⟨a1, a2, a3, a4, a5, a6⟩ := ones_inv z _ h hle
  obtain ⟨b1, b2, b3, b4, b5⟩ := shut_inv a1
  refine ⟨b1, fun k v => (b2 k v).trans (a2 k v), ?_, ?_, ?_⟩
  · unfold moveT
    rw [b3]
    unfold Tb.left at *
    rw [a3, a4]
    omega
  · unfold moveT
    rw [b4]; exact a5
  · unfold moveT
    rw [b5]; exact a6

/-- What Get and Place tell. -/
theorem place_row {T : Tb} (h : Inv0 T) {k : ByteArray} {i : Nat} (hf : Fnd T.row k i) : placeT T k = (i, false, true) := by
  have := look_there h.row_emp h.prb h.unq hf
  unfold placeT
  rw [this]
  rfl
theorem place_elder {T : Tb} (h : Inv0 T) {k : ByteArray} {i : Nat} (hf : Fnd T.elder k i) : placeT T k = (i, true, true) := by
  have hne : T.elder ≠ [] := by intro e; have := hf.1; rw [e] at this; simp at this
  have h2 := look_there (h.emp hne) h.eprb h.eunq hf
  have h3 : (lookL T.row k).2 = false := by
    cases e : (lookL T.row k).2
    · rfl
    · exact (h.apart k _ i (look_true (fun _ => h.row_emp) e) hf).elim
  unfold placeT
  rw [h3, h2]
  rfl
theorem place_none {T : Tb} (h : Inv0 T) {k : ByteArray} (hn : ∀ v, ¬ Has T k v) : placeT T k = (0, false, false) := by
  have h3 : (lookL T.row k).2 = false := by
    cases e : (lookL T.row k).2
    · rfl
    · exact absurd (Or.inl (look_true (fun _ => h.row_emp) e).ent) (hn _)
  have h4 : (lookL T.elder k).2 = false := by
    cases e : (lookL T.elder k).2
    · rfl
    · exact absurd (Or.inr (look_true h.emp e).ent) (hn _)
  unfold placeT
  rw [h3, h4]
  rfl
theorem get_has (z : Value) {T : Tb} (h : Inv0 T) {k : ByteArray} {v : Value} (hv : Has T k v) : getT z T k = (v, true) := by
  rcases hv with ⟨p, hp, e⟩ | ⟨p, hp, e⟩
  · have := place_row h (k := k) (i := p) ⟨hp, by rw [e], by rw [e]⟩
    unfold getT
    rw [this]
    simp [e]
  · have := place_elder h (k := k) (i := p) ⟨hp, by rw [e], by rw [e]⟩
    unfold getT
    rw [this]
    simp [e]
theorem get_none (z : Value) {T : Tb} (h : Inv0 T) {k : ByteArray} (hn : ∀ v, ¬ Has T k v) : getT z T k = (z, false) := by
  unfold getT
  rw [place_none h hn]
  rfl
theorem has_one {T : Tb} (h : Inv0 T) {k : ByteArray} {v w : Value} (h1 : Has T k v) (h2 : Has T k w) : v = w := by
  have a := get_has (.int .i64 0) h h1
  have b := get_has (.int .i64 0) h h2
  rw [a] at b
  simpa using b
/-- Is it there, and where? -/
theorem place_cases {T : Tb} (h : Inv0 T) (k : ByteArray) : (∃ i, Fnd T.row k i ∧ placeT T k = (i, false, true)) ∨ (∃ i, Fnd T.elder k i ∧ placeT T k = (i, true, true)) ∨ ((∀ v, ¬ Has T k v) ∧ placeT T k = (0, false, false)) := by
  rcases Classical.em (∃ i, Fnd T.row k i) with ⟨i, hi⟩ | h1
  · exact Or.inl ⟨i, hi, place_row h hi⟩
  · rcases Classical.em (∃ i, Fnd T.elder k i) with ⟨i, hi⟩ | h2
    · exact Or.inr (Or.inl ⟨i, hi, place_elder h hi⟩)
    · have hn : ∀ v, ¬ Has T k v := by
        rintro v (hv | hv)
        · exact h1 hv.fnd
        · exact h2 hv.fnd
      exact Or.inr (Or.inr ⟨hn, place_none h hn⟩)

/-- Another value in a taken place. -/
theorem putIn_facts {r : List Pl} {k : ByteArray} {i : Nat} (v : Value) (hf : Fnd r k i) (hu : Unq r) :
    (putIn r i v).length = r.length ∧ (∀ p, (at' (putIn r i v) p).st = (at' r p).st ∧ (at' (putIn r i v) p).key = (at' r p).key) ∧ cnt (putIn r i v) = cnt r ∧ (∀ k' v', Ent (putIn r i v) k' v' ↔ (k' = k ∧ v' = v) ∨ (k' ≠ k ∧ Ent r k' v')) := by
  obtain ⟨hi, h1, hk⟩ := hf
  have hA : ∀ p, at' (putIn r i v) p = if i = p then ⟨(at' r i).st, (at' r i).key, v⟩ else at' r p := fun p => at_set _ _ _ _ hi
  have hL : (putIn r i v).length = r.length := by simp [putIn]
  refine ⟨hL, ?_, ?_, ?_⟩
  · intro p
    rw [hA]
    split
    · rename_i e; subst e; exact ⟨rfl, rfl⟩
    · exact ⟨rfl, rfl⟩
  · have := cnt_set r i ⟨(at' r i).st, (at' r i).key, v⟩ hi
    unfold putIn
    rw [h1] at this ⊢
    simpa using this
  · intro k' v'
    constructor
    · rintro ⟨p, hp, e⟩
      rw [hL] at hp
      rw [hA] at e
      split at e
      · simp only [Pl.mk.injEq] at e
        exact Or.inl ⟨by rw [← e.2.1, hk], e.2.2.symm⟩
      · rename_i hne
        refine Or.inr ⟨fun ek => hne (hu i p hi hp h1 (by rw [e]) (by rw [e, hk, ek])), p, hp, e⟩
    · rintro (⟨rfl, rfl⟩ | ⟨hne, p, hp, e⟩)
      · exact ⟨i, by rw [hL]; exact hi, by rw [hA, if_pos rfl, h1, hk]⟩
      · refine ⟨p, by rw [hL]; exact hp, ?_⟩
        rw [hA, if_neg]
        · exact e
        · rintro rfl; rw [e] at hk; exact hne hk
theorem prb_same {r s : List Pl} (hl : s.length = r.length) (hs : ∀ p, (at' s p).st = (at' r p).st ∧ (at' s p).key = (at' r p).key) (h : Prb r) : Prb s := by
  intro p hp h1 q hq hlt
  rw [homeL_len hl, (hs p).2] at hlt
  rw [hl] at hp hq hlt
  rw [(hs p).1] at h1
  rw [(hs q).1]
  exact h p hp h1 q hq hlt
theorem unq_same {r s : List Pl} (hl : s.length = r.length) (hs : ∀ p, (at' s p).st = (at' r p).st ∧ (at' s p).key = (at' r p).key) (h : Unq r) : Unq s := by
  intro p q hp hq h1 h2 hk
  rw [hl] at hp hq
  rw [(hs p).1] at h1
  rw [(hs q).1] at h2
  rw [(hs p).2, (hs q).2] at hk
  exact h p q hp hq h1 h2 hk
theorem fnd_same {r s : List Pl} (hl : s.length = r.length) (hs : ∀ p, (at' s p).st = (at' r p).st ∧ (at' s p).key = (at' r p).key) (k : ByteArray) (i : Nat) : Fnd s k i ↔ Fnd r k i := by
  unfold Fnd
  rw [hl, (hs i).1, (hs i).2]

/-- Growing. -/
theorem grow_inv (z : Value) {T : Tb} (h : Inv T) : Inv (growT z T) ∧ (∀ k v, Has (growT z T) k v ↔ Has T k v) ∧ (growT z T).row.length = 2 * T.row.length ∧ (growT z T).keys = T.keys ∧ (growT z T).left = T.row.length ∧ (growT z T).row = List.replicate (2 * T.row.length) (pz z) := by
  obtain ⟨a1, a2, a3, a4, a5⟩ := move_inv z h.i0 (T.left : Int)
  have hl0 : (moveT z T (T.left : Int)).left = 0 := by rw [a3]; omega
  have he := a1.shut hl0
  unfold growT
  generalize hU : moveT z T (T.left : Int) = U at *
  dsimp only
  rw [a4, a5]
  have hn : 8 ≤ U.row.length := a1.i0.pos
  have h0 : ∀ i, i < 2 * T.row.length → at' (List.replicate (2 * T.row.length) (pz z)) i = pz z := fun i hi => at_rep z hi
  have hc : cnt (List.replicate (2 * T.row.length) (pz z)) = 0 := cnt_rep z _
  have hlen : (List.replicate (2 * T.row.length) (pz z)).length = 2 * T.row.length := by simp
  have hke : U.keys = cnt U.row := by have := a1.i0.keys; rw [he] at this; exact this
  have hrm := a1.i0.room
  refine ⟨⟨⟨?_, ?_, ?_, ?_, a1.i0.prb, a1.i0.unq, fun _ => a1.i0.row_emp, ?_, Nat.zero_le _, ?_, ?_, ?_, ?_⟩, ?_⟩, ?_, hlen, rfl, ?_, rfl⟩
  · show 8 ≤ (List.replicate (2 * T.row.length) (pz z)).length
    rw [hlen]; omega
  · intro i hi
    show (at' (List.replicate (2 * T.row.length) (pz z)) i).st ≤ 1
    rw [h0 i (by simpa using hi)]
    exact Nat.zero_le _
  · intro p hp h1
    rw [h0 p (by simpa using hp)] at h1
    cases h1
  · intro p q hp _ h1
    rw [h0 p (by simpa using hp)] at h1
    cases h1
  · intro _
    show U.row.length * 2 = (List.replicate (2 * T.row.length) (pz z)).length
    rw [hlen, a4]; omega
  · intro k i j hi _
    have := hi.2.1
    rw [h0 i (by simpa using hi.1)] at this
    cases this
  · show T.keys = cnt (List.replicate (2 * T.row.length) (pz z)) + cnt U.row
    rw [hc, ← hke, a5]; omega
  · show 4 * T.keys ≤ 3 * (List.replicate (2 * T.row.length) (pz z)).length
    rw [hlen]; omega
  · intro i hi
    exact absurd hi (Nat.not_lt_zero _)
  · intro h3
    unfold Tb.left at h3
    simp only at h3
    omega
  · intro k v
    rw [← a2 k v]
    constructor
    · rintro (⟨p, hp, e⟩ | h3)
      · rw [h0 p (by simpa using hp)] at e
        simp [pz] at e
      · exact Or.inl h3
    · rintro (h3 | h3)
      · exact Or.inr h3
      · rw [he] at h3
        obtain ⟨p, hp, _⟩ := h3
        simp at hp
  · show U.row.length - 0 = _
    rw [a4]; omega

theorem put_there {z : Value} {T : Tb} (h : Inv T) {k : ByteArray} (v : Value) {w : Value} (hw : Has T k w) : Inv (putT z T k v) ∧ (∀ k' v', Has (putT z T k v) k' v' ↔ (k' = k ∧ v' = v) ∨ (k' ≠ k ∧ Has T k' v')) ∧ (putT z T k v).keys = T.keys ∧ (putT z T k v).row.length = T.row.length ∧ (putT z T k v).left = (moveT z T 4).left := by
  obtain ⟨a1, a2, _, a4, a5⟩ := move_inv z h.i0 4
  have hw2 := (a2 k w).2 hw
  unfold putT
  generalize moveT z T 4 = U at *
  dsimp only
  rcases place_cases a1.i0 k with ⟨i, hf, hp⟩ | ⟨i, hf, hp⟩ | ⟨hn, hp⟩
  · rw [hp]
    simp only [if_true]
    obtain ⟨c1, c2, c3, c4⟩ := putIn_facts v hf a1.i0.unq
    have hno : ∀ k' v', Ent U.elder k' v' → k' ≠ k := by
      rintro k' v' he rfl
      obtain ⟨j, hj⟩ := he.fnd
      exact a1.i0.apart _ _ _ hf hj
    refine ⟨⟨⟨?_, ?_, prb_same c1 c2 a1.i0.prb, unq_same c1 c2 a1.i0.unq, a1.i0.eprb, a1.i0.eunq, a1.i0.emp, ?_, a1.i0.mv, ?_, ?_, ?_, a1.i0.past⟩, a1.shut⟩, ?_, a5, ?_, rfl⟩
    · show 8 ≤ (putIn U.row i v).length
      rw [c1]; exact a1.i0.pos
    · intro p hp1
      show (at' (putIn U.row i v) p).st ≤ 1
      rw [(c2 p).1]
      exact a1.i0.st p (by rw [← c1]; exact hp1)
    · intro he
      show U.elder.length * 2 = (putIn U.row i v).length
      rw [c1]; exact a1.i0.half he
    · intro k' p q h1 h2
      exact a1.i0.apart k' p q ((fnd_same c1 c2 k' p).1 h1) h2
    · show U.keys = cnt (putIn U.row i v) + cnt U.elder
      rw [c3]; exact a1.i0.keys
    · show 4 * U.keys ≤ 3 * (putIn U.row i v).length
      rw [c1]; exact a1.i0.room
    · intro k' v'
      show Ent (putIn U.row i v) k' v' ∨ Ent U.elder k' v' ↔ _
      rw [c4, ← a2 k' v']
      constructor
      · rintro ((h1 | h1) | h1)
        · exact Or.inl h1
        · exact Or.inr ⟨h1.1, Or.inl h1.2⟩
        · exact Or.inr ⟨hno _ _ h1, Or.inr h1⟩
      · rintro (h1 | ⟨h1, h2 | h2⟩)
        · exact Or.inl (Or.inl h1)
        · exact Or.inl (Or.inr ⟨h1, h2⟩)
        · exact Or.inr h2
    · show (putIn U.row i v).length = _
      rw [c1]; exact a4
  · rw [hp]
    simp only [if_true]
    obtain ⟨c1, c2, c3, c4⟩ := putIn_facts v hf a1.i0.eunq
    have hlen0 : (putIn U.elder i v ≠ []) → U.elder ≠ [] := by
      intro h1 e
      apply h1
      apply List.eq_nil_of_length_eq_zero
      rw [c1, e]; rfl
    have hno : ∀ k' v', Ent U.row k' v' → k' ≠ k := by
      rintro k' v' he rfl
      obtain ⟨j, hj⟩ := he.fnd
      exact a1.i0.apart _ _ _ hj hf
    refine ⟨⟨⟨a1.i0.pos, a1.i0.st, a1.i0.prb, a1.i0.unq, prb_same c1 c2 a1.i0.eprb, unq_same c1 c2 a1.i0.eunq, ?_, ?_, ?_, ?_, ?_, a1.i0.room, ?_⟩, ?_⟩, ?_, a5, a4, ?_⟩
    · intro h1
      obtain ⟨j, hj, hj0⟩ := a1.i0.emp (hlen0 h1)
      exact ⟨j, by rw [c1]; exact hj, by rw [(c2 j).1]; exact hj0⟩
    · intro h1
      show (putIn U.elder i v).length * 2 = U.row.length
      rw [c1]; exact a1.i0.half (hlen0 h1)
    · show U.moved ≤ (putIn U.elder i v).length
      rw [c1]; exact a1.i0.mv
    · intro k' p q h1 h2
      exact a1.i0.apart k' p q h1 ((fnd_same c1 c2 k' q).1 h2)
    · show U.keys = cnt U.row + cnt (putIn U.elder i v)
      rw [c3]; exact a1.i0.keys
    · intro p hp1
      show (at' (putIn U.elder i v) p).st ≠ 1
      rw [(c2 p).1]
      exact a1.i0.past p hp1
    · intro h1
      have : U.left = 0 := by unfold Tb.left at h1 ⊢; simp only [c1] at h1; exact h1
      have h2 := hf.1
      rw [a1.shut this] at h2
      simp at h2
    · intro k' v'
      show Ent U.row k' v' ∨ Ent (putIn U.elder i v) k' v' ↔ _
      rw [c4, ← a2 k' v']
      constructor
      · rintro (h1 | (h1 | h1))
        · exact Or.inr ⟨hno _ _ h1, Or.inl h1⟩
        · exact Or.inl h1
        · exact Or.inr ⟨h1.1, Or.inr h1.2⟩
      · rintro (h1 | ⟨h1, h2 | h2⟩)
        · exact Or.inr (Or.inl h1)
        · exact Or.inl h2
        · exact Or.inr (Or.inr ⟨h1, h2⟩)
    · unfold Tb.left
      simp only [c1]
  · exact absurd hw2 (hn w)

theorem put_new {z : Value} {T : Tb} (h : Inv T) {k : ByteArray} (v : Value) (hn : ∀ w, ¬ Has T k w) : Inv (putT z T k v) ∧ (∀ k' v', Has (putT z T k v) k' v' ↔ (k' = k ∧ v' = v) ∨ (k' ≠ k ∧ Has T k' v')) ∧ (putT z T k v).keys = T.keys + 1 ∧ (putT z T k v).row.length = (if 3 * T.row.length < 4 * (T.keys + 1) then 2 * T.row.length else T.row.length) ∧ (putT z T k v).left = (if 3 * T.row.length < 4 * (T.keys + 1) then T.row.length else (moveT z T 4).left) := by
  obtain ⟨a1, a2, _, a4, a5⟩ := move_inv z h.i0 4
  have hn2 : ∀ w, ¬ Has (moveT z T 4) k w := fun w hw => hn w ((a2 k w).1 hw)
  unfold putT
  generalize moveT z T 4 = U at *
  dsimp only
  rw [place_none a1.i0 hn2]
  simp only [Bool.false_eq_true, if_false]
  rw [← a4, ← a5]
  have key : ∀ G : Tb, Inv G → (∀ k' v', Has G k' v' ↔ Has U k' v') → 4 * (G.keys + 1) ≤ 3 * G.row.length → Inv ⟨layP G.row k v, G.elder, G.moved, G.keys + 1⟩ ∧ (∀ k' v', Has ⟨layP G.row k v, G.elder, G.moved, G.keys + 1⟩ k' v' ↔ (k' = k ∧ v' = v) ∨ (k' ≠ k ∧ Has T k' v')) := by
    intro G g1 g2 g3
    have hnG : ∀ w, ¬ Has G k w := fun w hw => hn2 w ((g2 k w).1 hw)
    have hno : ¬ ∃ i, Fnd G.row k i := fun ⟨i, hi⟩ => hnG _ (Or.inl hi.ent)
    have hno2 : ¬ ∃ i, Fnd G.elder k i := fun ⟨i, hi⟩ => hnG _ (Or.inr hi.ent)
    have he := g1.i0.row_emp
    have hlay := lay_ent v he hno
    refine ⟨⟨⟨?_, lay_st v he hno g1.i0.st, lay_prb v he hno g1.i0.prb, lay_unq v he hno g1.i0.unq, g1.i0.eprb, g1.i0.eunq, g1.i0.emp, ?_, g1.i0.mv, ?_, ?_, ?_, g1.i0.past⟩, g1.shut⟩, ?_⟩
    · show 8 ≤ (layP G.row k v).length
      rw [layP_len]; exact g1.i0.pos
    · intro h1
      show G.elder.length * 2 = (layP G.row k v).length
      rw [layP_len]; exact g1.i0.half h1
    · intro k' p q h1 h2
      rcases (hlay k' _).1 h1.ent with ⟨rfl, _⟩ | h3
      · exact hno2 ⟨_, h2⟩
      · obtain ⟨b, hb⟩ := h3.fnd
        exact g1.i0.apart k' b q hb h2
    · show G.keys + 1 = cnt (layP G.row k v) + cnt G.elder
      rw [lay_cnt v he hno, g1.i0.keys]; omega
    · show 4 * (G.keys + 1) ≤ 3 * (layP G.row k v).length
      rw [layP_len]; exact g3
    · intro k' v'
      show Ent (layP G.row k v) k' v' ∨ Ent G.elder k' v' ↔ _
      rw [hlay, ← a2 k' v', ← g2 k' v']
      constructor
      · rintro ((h1 | h1) | h1)
        · exact Or.inl h1
        · exact Or.inr ⟨by rintro rfl; exact hnG _ (Or.inl h1), Or.inl h1⟩
        · exact Or.inr ⟨by rintro rfl; exact hnG _ (Or.inr h1), Or.inr h1⟩
      · rintro (h1 | ⟨_, h1 | h1⟩)
        · exact Or.inl (Or.inl h1)
        · exact Or.inl (Or.inr h1)
        · exact Or.inr h1
  by_cases hg : 3 * U.row.length < 4 * (U.keys + 1)
  · rw [if_pos hg, if_pos hg, if_pos hg]
    obtain ⟨c1, c2, c3, c4, c5, _⟩ := grow_inv z a1
    obtain ⟨d1, d2⟩ := key (growT z U) c1 c2 (by rw [c3, c4]; have := a1.i0.room; have := a1.i0.pos; omega)
    exact ⟨d1, d2, by rw [← c4], by rw [layP_len]; exact c3, c5⟩
  · rw [if_neg hg, if_neg hg, if_neg hg]
    obtain ⟨d1, d2⟩ := key U a1 (fun _ _ => Iff.rfl) (by omega)
    exact ⟨d1, d2, rfl, layP_len _ _ _, rfl⟩

theorem drop_inv {z : Value} {T : Tb} (h : Inv T) (k : ByteArray) : Inv (dropT z T k) ∧ (∀ k' v', Has (dropT z T k) k' v' ↔ (k' ≠ k ∧ Has T k' v')) ∧ (dropT z T k).row.length = T.row.length ∧ (dropT z T k).left = (moveT z T 4).left ∧
    (((∀ w, ¬ Has T k w) ∧ (dropT z T k).keys = T.keys ∧ dropV z T k = (z, false)) ∨ (∃ w, Has T k w ∧ (dropT z T k).keys + 1 = T.keys ∧ dropV z T k = (w, true))) := by
  obtain ⟨a1, a2, _, a4, a5⟩ := move_inv z h.i0 4
  unfold dropT dropV
  generalize moveT z T 4 = U at *
  dsimp only
  rcases place_cases a1.i0 k with ⟨i, hf, hp⟩ | ⟨i, hf, hp⟩ | ⟨hn, hp⟩
  · rw [hp]
    simp only [if_true]
    obtain ⟨j, hj, hj0⟩ := a1.i0.row_emp
    obtain ⟨b1, b2, b3, b4, b5, b6⟩ := mend_spec z hf.1 hj hf.2.1 hj0 a1.i0.prb a1.i0.unq a1.i0.st
    rw [hf.2.2] at b6
    have hno : ∀ k' v', Ent U.elder k' v' → k' ≠ k := by
      rintro k' v' he rfl
      obtain ⟨q, hq⟩ := he.fnd
      exact a1.i0.apart _ _ _ hf hq
    have hHas : Has U k (at' U.row i).val := Or.inl hf.ent
    refine ⟨⟨⟨?_, ?_, b2, b3, a1.i0.eprb, a1.i0.eunq, a1.i0.emp, ?_, a1.i0.mv, ?_, ?_, ?_, a1.i0.past⟩, a1.shut⟩, ?_, ?_, rfl, Or.inr ⟨_, (a2 _ _).1 hHas, ?_, get_has z a1.i0 hHas⟩⟩
    · show 8 ≤ (mendL z U.row i).length
      rw [b1]; exact a1.i0.pos
    · intro p hp1
      exact b4 p (by rw [← b1]; exact hp1)
    · intro h1
      show U.elder.length * 2 = (mendL z U.row i).length
      rw [b1]; exact a1.i0.half h1
    · intro k' p q h1 h2
      obtain ⟨_, h3⟩ := (b6 k' _).1 h1.ent
      obtain ⟨c, hc⟩ := h3.fnd
      exact a1.i0.apart k' c q hc h2
    · show U.keys - 1 = cnt (mendL z U.row i) + cnt U.elder
      have := a1.i0.keys
      omega
    · show 4 * (U.keys - 1) ≤ 3 * (mendL z U.row i).length
      have := a1.i0.room
      rw [b1]; omega
    · intro k' v'
      show Ent (mendL z U.row i) k' v' ∨ Ent U.elder k' v' ↔ _
      rw [b6, ← a2 k' v']
      constructor
      · rintro (h1 | h1)
        · exact ⟨h1.1, Or.inl h1.2⟩
        · exact ⟨hno _ _ h1, Or.inr h1⟩
      · rintro ⟨h1, h2 | h2⟩
        · exact Or.inl ⟨h1, h2⟩
        · exact Or.inr h2
    · show (mendL z U.row i).length = _
      rw [b1]; exact a4
    · show U.keys - 1 + 1 = _
      have := a1.i0.keys
      omega
  · rw [hp]
    simp only [if_true]
    have hne : U.elder ≠ [] := by intro e; have := hf.1; rw [e] at this; simp at this
    obtain ⟨g1, g2, g3, g4, g5⟩ := gone_facts z hf.1 hf.2.1 a1.i0.eprb a1.i0.eunq (a1.i0.emp hne)
    rw [hf.2.2] at g5
    have hno : ∀ k' v', Ent U.row k' v' → k' ≠ k := by
      rintro k' v' he rfl
      obtain ⟨q, hq⟩ := he.fnd
      exact a1.i0.apart _ _ _ hq hf
    have hHas : Has U k (at' U.elder i).val := Or.inr hf.ent
    refine ⟨⟨⟨a1.i0.pos, a1.i0.st, a1.i0.prb, a1.i0.unq, g1, g2, fun _ => g3, ?_, ?_, ?_, ?_, ?_, ?_⟩, ?_⟩, ?_, a4, ?_, Or.inr ⟨_, (a2 _ _).1 hHas, ?_, get_has z a1.i0 hHas⟩⟩
    · intro _
      show (U.elder.set i (pg z)).length * 2 = U.row.length
      rw [List.length_set]; exact a1.i0.half hne
    · show U.moved ≤ (U.elder.set i (pg z)).length
      rw [List.length_set]; exact a1.i0.mv
    · intro k' p q h1 h2
      obtain ⟨_, h3⟩ := (g5 k' _).1 h2.ent
      obtain ⟨c, hc⟩ := h3.fnd
      exact a1.i0.apart k' p c h1 hc
    · show U.keys - 1 = cnt U.row + cnt (U.elder.set i (pg z))
      have := a1.i0.keys
      omega
    · show 4 * (U.keys - 1) ≤ 3 * U.row.length
      have := a1.i0.room
      omega
    · intro p hp1
      show (at' (U.elder.set i (pg z)) p).st ≠ 1
      rw [at_set _ _ _ _ hf.1]
      split
      · simp [pg]
      · exact a1.i0.past p hp1
    · intro h1
      have : U.left = 0 := by unfold Tb.left at h1 ⊢; simp only [List.length_set] at h1; exact h1
      exact absurd (a1.shut this) hne
    · intro k' v'
      show Ent U.row k' v' ∨ Ent (U.elder.set i (pg z)) k' v' ↔ _
      rw [g5, ← a2 k' v']
      constructor
      · rintro (h1 | h1)
        · exact ⟨hno _ _ h1, Or.inl h1⟩
        · exact ⟨h1.1, Or.inr h1.2⟩
      · rintro ⟨h1, h2 | h2⟩
        · exact Or.inl h2
        · exact Or.inr ⟨h1, h2⟩
    · unfold Tb.left
      simp only [List.length_set]
    · have := a1.i0.keys
      omega
  · rw [hp]
    simp only [Bool.false_eq_true, if_false]
    refine ⟨a1, ?_, a4, trivial, Or.inl ⟨fun w hw => hn w ((a2 k w).2 hw), a5, get_none z a1.i0 hn⟩⟩
    intro k' v'
    rw [a2]
    constructor
    · intro h1
      refine ⟨?_, h1⟩
      rintro rfl
      exact hn _ ((a2 _ _).2 h1)
    · exact fun h1 => h1.2
end Go.Proofs.YtgbkihkefdoddaaGreatDoor
end
