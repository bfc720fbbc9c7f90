/- Tables as lists of places: hashes, looking for a key, laying, mending, moving, growing; what follows (P607, P608). Nothing of the program is used here. -/
import GoSem.Core.Value
namespace Go.Proofs.YtcjadgnefojjgabDoor

/-- A text's hash, of its first n bytes. -/
def hashN (s : ByteArray) : Nat → Nat
  | 0 => 14695981039346656037
  | n + 1 => ((hashN s n ^^^ (s.data.getD n 0).toNat) * 1099511628211) % 18446744073709551616
def hashL (s : ByteArray) : Nat := hashN s s.size

/-- A place: 0 empty, 1 taken, 2 gone. -/
structure Pl where
  st : Nat
  key : ByteArray
  val : Value

def none8 : ByteArray := ⟨#[]⟩
/-- The empty place, over a zero value. -/
def pz (z : Value) : Pl := ⟨0, none8, z⟩
def pg (z : Value) : Pl := ⟨2, none8, z⟩

/-- The way from a place on to another, and the next one, in a row of n. -/
def ds (n a b : Nat) : Nat := if a ≤ b then b - a else b + n - a
def nx (n a : Nat) : Nat := if a + 1 = n then 0 else a + 1
theorem nx_lt {n a : Nat} (h : a < n) : nx n a < n := by unfold nx; split <;> omega
theorem nx_mod {n a : Nat} (h : a < n) : (a + 1) % n = nx n a := by
  unfold nx
  split
  · rename_i e; rw [e]; exact Nat.mod_self n
  · exact Nat.mod_eq_of_lt (by omega)
theorem ds_lt {n a b : Nat} (ha : a < n) (hb : b < n) : ds n a b < n := by unfold ds; split <;> omega
theorem ds_mod {n a b : Nat} (_ha : a < n) (hb : b < n) : (b + n - a) % n = ds n a b := by
  unfold ds
  split
  · rw [show b + n - a = (b - a) + n by omega, Nat.add_mod_right]; exact Nat.mod_eq_of_lt (by omega)
  · exact Nat.mod_eq_of_lt (by omega)
theorem ds_nx {n a b : Nat} (ha : a < n) (hb : b < n) (hne : a ≠ b) : ds n (nx n a) b + 1 = ds n a b := by
  unfold ds nx
  split <;> split <;> split <;> omega
theorem ds_self (n a : Nat) : ds n a a = 0 := by simp [ds]
theorem ds_zero {n a b : Nat} (ha : a < n) (_hb : b < n) (h : ds n a b = 0) : a = b := by unfold ds at h; split at h <;> omega

def at' (r : List Pl) (i : Nat) : Pl := r.getD i ⟨0, none8, .int .i64 0⟩
theorem at_set (r : List Pl) (i j : Nat) (p : Pl) (hi : i < r.length) : at' (r.set i p) j = if i = j then p else at' r j := by
  unfold at'
  by_cases h : i = j
  · subst h; simp [List.getD, hi]
  · simp [List.getD, h]

def homeL (r : List Pl) (k : ByteArray) : Nat := hashL k % r.length
theorem homeL_lt {r : List Pl} (k : ByteArray) (h : 0 < r.length) : homeL r k < r.length := Nat.mod_lt _ h

/-- Looking for a key. -/
def lookF (r : List Pl) (k : ByteArray) : Nat → Nat → Nat × Bool
  | 0, i => (i, false)
  | f + 1, i => if (at' r i).st = 0 then (i, false) else if (at' r i).st = 1 ∧ (at' r i).key = k then (i, true) else lookF r k f (nx r.length i)
def lookL (r : List Pl) (k : ByteArray) : Nat × Bool := if r.length = 0 then (0, false) else lookF r k r.length (homeL r k)

/-- Laying a key that is not there. -/
def layP (r : List Pl) (k : ByteArray) (v : Value) : List Pl := r.set (lookL r k).1 ⟨1, k, v⟩

/-- Mending: the place that is empty, the one that is looked at. -/
def mendF (z : Value) : Nat → List Pl → Nat → Nat → List Pl
  | 0, r, _, _ => r
  | f + 1, r, i, k => if (at' r k).st = 0 then r else
      if ds r.length (homeL r (at' r k).key) k < ds r.length i k then mendF z f r i (nx r.length k)
      else mendF z f ((r.set i (at' r k)).set k (pz z)) k (nx r.length k)
def mendL (z : Value) (r : List Pl) (i : Nat) : List Pl := mendF z r.length (r.set i (pz z)) i (nx r.length i)

/-- A table. -/
structure Tb where
  row : List Pl
  elder : List Pl
  moved : Nat
  keys : Nat

def Tb.left (T : Tb) : Nat := T.elder.length - T.moved
def newT (z : Value) : Tb := ⟨List.replicate 8 (pz z), [], 0, 0⟩
def one (z : Value) (T : Tb) : Tb :=
  if (at' T.elder T.moved).st = 1 then ⟨layP T.row (at' T.elder T.moved).key (at' T.elder T.moved).val, T.elder.set T.moved (pg z), T.moved + 1, T.keys⟩
  else ⟨T.row, T.elder, T.moved + 1, T.keys⟩
def ones (z : Value) : Nat → Tb → Tb
  | 0, T => T
  | n + 1, T => ones z n (one z T)
def shut (T : Tb) : Tb := if T.left = 0 then ⟨T.row, [], 0, T.keys⟩ else T
def moveT (z : Value) (T : Tb) (places : Int) : Tb := shut (ones z (min places (T.left : Int)).toNat T)
def growT (z : Value) (T : Tb) : Tb := let U := moveT z T (T.left : Int); ⟨List.replicate (2 * U.row.length) (pz z), U.row, 0, U.keys⟩
/-- Where a key lies: the place, whether in the elder row, whether it is there. -/
def placeT (T : Tb) (k : ByteArray) : Nat × Bool × Bool :=
  if (lookL T.row k).2 then ((lookL T.row k).1, false, true) else if (lookL T.elder k).2 then ((lookL T.elder k).1, true, true) else (0, false, false)
def getT (z : Value) (T : Tb) (k : ByteArray) : Value × Bool :=
  if (placeT T k).2.2 then (if (placeT T k).2.1 then ((at' T.elder (placeT T k).1).val, true) else ((at' T.row (placeT T k).1).val, true)) else (z, false)
def putIn (r : List Pl) (i : Nat) (v : Value) : List Pl := r.set i ⟨(at' r i).st, (at' r i).key, v⟩
def putT (z : Value) (T0 : Tb) (k : ByteArray) (v : Value) : Tb :=
  let T := moveT z T0 4
  if (placeT T k).2.2 then
    (if (placeT T k).2.1 then ⟨T.row, putIn T.elder (placeT T k).1 v, T.moved, T.keys⟩ else ⟨putIn T.row (placeT T k).1 v, T.elder, T.moved, T.keys⟩)
  else
    let U := if 3 * T.row.length < 4 * (T.keys + 1) then growT z T else T
    ⟨layP U.row k v, U.elder, U.moved, U.keys + 1⟩
def dropT (z : Value) (T0 : Tb) (k : ByteArray) : Tb :=
  let T := moveT z T0 4
  if (placeT T k).2.2 then
    (if (placeT T k).2.1 then ⟨T.row, T.elder.set (placeT T k).1 (pg z), T.moved, T.keys - 1⟩ else ⟨mendL z T.row (placeT T k).1, T.elder, T.moved, T.keys - 1⟩)
  else T
def dropV (z : Value) (T0 : Tb) (k : ByteArray) : Value × Bool := getT z (moveT z T0 4) k

/-- A row in which there is an empty place. -/
def Emp (r : List Pl) : Prop := ∃ j, j < r.length ∧ (at' r j).st = 0
/-- No place between a key's home and its place is empty. -/
def Prb (r : List Pl) : Prop := ∀ p, p < r.length → (at' r p).st = 1 → ∀ q, q < r.length → ds r.length (homeL r (at' r p).key) q < ds r.length (homeL r (at' r p).key) p → (at' r q).st ≠ 0
/-- A key lies at one place. -/
def Unq (r : List Pl) : Prop := ∀ p q, p < r.length → q < r.length → (at' r p).st = 1 → (at' r q).st = 1 → (at' r p).key = (at' r q).key → p = q
def Fnd (r : List Pl) (k : ByteArray) (i : Nat) : Prop := i < r.length ∧ (at' r i).st = 1 ∧ (at' r i).key = k

/-- What looking tells: the place where it ends, from home on. -/
theorem lookF_spec (r : List Pl) (k : ByteArray) (j : Nat) (hj : j < r.length) (hj0 : (at' r j).st = 0) : ∀ (f i : Nat), i < r.length → ds r.length i j < f →
    (∀ q, q < r.length → ds r.length (homeL r k) q < ds r.length (homeL r k) i → (at' r q).st ≠ 0 ∧ ¬ ((at' r q).st = 1 ∧ (at' r q).key = k)) → ds r.length (homeL r k) i ≤ ds r.length (homeL r k) j →
    (lookF r k f i).1 < r.length ∧ (∀ q, q < r.length → ds r.length (homeL r k) q < ds r.length (homeL r k) (lookF r k f i).1 → (at' r q).st ≠ 0 ∧ ¬ ((at' r q).st = 1 ∧ (at' r q).key = k)) ∧
      (((lookF r k f i).2 = true ∧ (at' r (lookF r k f i).1).st = 1 ∧ (at' r (lookF r k f i).1).key = k) ∨ ((lookF r k f i).2 = false ∧ (at' r (lookF r k f i).1).st = 0))
  | 0, i, _, hf, _, _ => absurd hf (Nat.not_lt_zero _)
  | f + 1, i, hi, hf, hpre, hle => by
    unfold lookF
    by_cases h0 : (at' r i).st = 0
    · rw [if_pos h0]
      exact ⟨hi, hpre, Or.inr ⟨rfl, h0⟩⟩
    · rw [if_neg h0]
      by_cases h1 : (at' r i).st = 1 ∧ (at' r i).key = k
      · rw [if_pos h1]
        exact ⟨hi, hpre, Or.inl ⟨rfl, h1⟩⟩
      · rw [if_neg h1]
        have hne : i ≠ j := by rintro rfl; exact h0 hj0
        have hh := homeL_lt k (show 0 < r.length by omega)
        have h2 := ds_nx hi hj hne
        have h3 : ds r.length (homeL r k) (nx r.length i) = ds r.length (homeL r k) i + 1 := by
          have : ds r.length (homeL r k) i ≠ ds r.length (homeL r k) j := by
            intro e
            apply hne
            unfold ds at e
            split at e <;> split at e <;> omega
          have hlj := ds_lt hh hj
          revert hle this hlj
          generalize homeL r k = h at *
          unfold ds nx
          split <;> split <;> split <;> split <;> omega
        refine lookF_spec r k j hj hj0 f _ (nx_lt hi) (by omega) ?_ ?_
        · intro q hq hlt
          by_cases he : q = i
          · subst he; exact ⟨h0, h1⟩
          · apply hpre q hq
            have : ds r.length (homeL r k) q ≠ ds r.length (homeL r k) i := by
              intro e
              apply he
              unfold ds at e
              split at e <;> split at e <;> omega
            omega
        · have : ds r.length (homeL r k) i ≠ ds r.length (homeL r k) j := by
            intro e
            apply hne
            unfold ds at e
            split at e <;> split at e <;> omega
          omega

theorem lookL_spec {r : List Pl} (k : ByteArray) (he : Emp r) :
    (lookL r k).1 < r.length ∧ (∀ q, q < r.length → ds r.length (homeL r k) q < ds r.length (homeL r k) (lookL r k).1 → (at' r q).st ≠ 0 ∧ ¬ ((at' r q).st = 1 ∧ (at' r q).key = k)) ∧
      (((lookL r k).2 = true ∧ (at' r (lookL r k).1).st = 1 ∧ (at' r (lookL r k).1).key = k) ∨ ((lookL r k).2 = false ∧ (at' r (lookL r k).1).st = 0)) := by
  obtain ⟨j, hj, hj0⟩ := he
  have hp : 0 < r.length := by omega
  have hh := homeL_lt k hp
  unfold lookL
  rw [if_neg (by omega)]
  exact lookF_spec r k j hj hj0 _ _ hh (ds_lt hh hj) (fun q hq h => by rw [ds_self] at h; omega) (by rw [ds_self]; omega)

/-- In a right row a key that is there is found. -/
theorem look_there {r : List Pl} (he : Emp r) (hp : Prb r) (hu : Unq r) {k : ByteArray} {i : Nat} (h : Fnd r k i) : lookL r k = (i, true) := by
  obtain ⟨hi, h1, hk⟩ := h
  obtain ⟨a1, a2, a3⟩ := lookL_spec k he
  have hh := homeL_lt k (show 0 < r.length by omega)
  rcases a3 with ⟨b1, b2, b3⟩ | ⟨b1, b2⟩
  · exact Prod.ext (hu _ _ a1 hi b2 h1 (b3.trans hk.symm)) b1
  · exfalso
    by_cases hlt : ds r.length (homeL r k) (lookL r k).1 < ds r.length (homeL r k) i
    · have := hp i hi h1 (lookL r k).1 a1 (by rw [hk]; exact hlt)
      exact this b2
    · by_cases heq : (lookL r k).1 = i
      · rw [heq, h1] at b2; cases b2
      · have : ds r.length (homeL r k) i ≠ ds r.length (homeL r k) (lookL r k).1 := by
          intro e
          apply heq
          unfold ds at e
          split at e <;> split at e <;> omega
        exact (a2 i hi (by omega)).2 ⟨h1, hk⟩
theorem look_true {r : List Pl} (he : r ≠ [] → Emp r) {k : ByteArray} (h : (lookL r k).2 = true) : Fnd r k (lookL r k).1 := by
  by_cases h0 : r = []
  · subst h0; simp [lookL] at h
  · obtain ⟨a1, _, a3⟩ := lookL_spec k (he h0)
    rcases a3 with ⟨_, b2, b3⟩ | ⟨b1, _⟩
    · exact ⟨a1, b2, b3⟩
    · rw [h] at b1; cases b1
end Go.Proofs.YtcjadgnefojjgabDoor
