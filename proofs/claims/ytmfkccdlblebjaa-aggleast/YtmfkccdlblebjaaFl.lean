/- The order of floats that are numbers: a key for each, by which they compare. Nothing of the program is used here. -/
import Derived.WalkKit
import GoSem.Core.Float
namespace Go.Proofs.Ytmfkccdlblebjaa
open Ieee

/-- A datum's key: which end of the line it lies at, and its number by a common place. -/
def keyR : Datum → Int
  | .number .. => 0
  | .infinity s => if s then -1 else 1
  | .nan .. => 0
def keyV (b : Int) : Datum → Int
  | .number s m i => signed s m (i - b).toNat
  | _ => 0
def low (b : Int) : Datum → Prop
  | .number _ _ i => b ≤ i
  | _ => True
def isNum : Datum → Prop
  | .nan .. => False
  | _ => True
def keyLt (b : Int) (d e : Datum) : Prop := keyR d < keyR e ∨ keyR d = keyR e ∧ keyV b d < keyV b e

theorem signed_up (s : Bool) (m u k : Nat) : signed s m (u + k) = signed s m u * (2 ^ k : Nat) := by
  unfold signed
  have e : m <<< (u + k) = m <<< u * 2 ^ k := by rw [Nat.shiftLeft_eq, Nat.shiftLeft_eq, Nat.pow_add, Nat.mul_assoc]
  rw [e]
  split
  · rw [Int.natCast_mul, Int.neg_mul]
  · rw [Int.natCast_mul]
theorem signed_place (s : Bool) (m : Nat) (i a b : Int) (hb : b ≤ a) (ha : a ≤ i) : signed s m (i - b).toNat = signed s m (i - a).toNat * (2 ^ (a - b).toNat : Nat) := by
  have e : (i - b).toNat = (i - a).toNat + (a - b).toNat := by omega
  rw [e, signed_up]
theorem lt_scale (x y : Int) (k : Nat) : x * (2 ^ k : Nat) < y * (2 ^ k : Nat) ↔ x < y := by
  have hp : (0 : Int) < ((2 ^ k : Nat) : Int) := by exact_mod_cast Nat.pos_of_ne_zero (by simp)
  exact ⟨fun h => Int.lt_of_mul_lt_mul_right h (Int.le_of_lt hp), fun h => Int.mul_lt_mul_of_pos_right h hp⟩

/-- How two numbers stand to each other, by their keys. -/
theorem order_lt {b : Int} {d e : Datum} (hd : isNum d) (he : isNum e) (ld : low b d) (le : low b e) : (d.order e == some .lt) = true ↔ keyLt b d e := by
  cases d with
  | nan => exact hd.elim
  | infinity s =>
    cases e with
    | nan => exact he.elim
    | infinity t => cases s <;> cases t <;> simp [Datum.order, keyLt, keyR, keyV] <;> decide
    | number t n j => cases s <;> simp [Datum.order, keyLt, keyR]
  | number s m i =>
    cases e with
    | nan => exact he.elim
    | infinity t => cases t <;> simp [Datum.order, keyLt, keyR]
    | number t n j =>
      have h1 := signed_place s m i (min i j) b (by simp only [low] at ld le; omega) (by omega)
      have h2 := signed_place t n j (min i j) b (by simp only [low] at ld le; omega) (by omega)
      simp only [Datum.order, keyLt, keyR, keyV, h1, h2, lt_scale]
      simp [Int.compare_eq_lt]
theorem order_gt {b : Int} {d e : Datum} (hd : isNum d) (he : isNum e) (ld : low b d) (le : low b e) : (d.order e == some .gt) = true ↔ keyLt b e d := by
  cases d with
  | nan => exact hd.elim
  | infinity s =>
    cases e with
    | nan => exact he.elim
    | infinity t => cases s <;> cases t <;> simp [Datum.order, keyLt, keyR, keyV] <;> decide
    | number t n j => cases s <;> simp [Datum.order, keyLt, keyR]
  | number s m i =>
    cases e with
    | nan => exact he.elim
    | infinity t => cases t <;> simp [Datum.order, keyLt, keyR]
    | number t n j =>
      have h1 := signed_place s m i (min i j) b (by simp only [low] at ld le; omega) (by omega)
      have h2 := signed_place t n j (min i j) b (by simp only [low] at ld le; omega) (by omega)
      simp only [Datum.order, keyLt, keyR, keyV, h1, h2, lt_scale]
      simp [Int.compare_eq_gt]
theorem order_some {d e : Datum} (hd : isNum d) (he : isNum e) : ∃ o, d.order e = some o := by
  cases d <;> cases e <;> first | exact hd.elim | exact he.elim | exact ⟨_, rfl⟩
theorem order_eq {b : Int} {d e : Datum} (hd : isNum d) (he : isNum e) (ld : low b d) (le : low b e) : (d.order e == some .eq) = true ↔ (¬ keyLt b d e ∧ ¬ keyLt b e d) := by
  rw [← order_lt hd he ld le, ← order_gt hd he ld le]
  obtain ⟨o, ho⟩ := order_some hd he
  rw [ho]
  cases o <;> decide
theorem order_nan {d : Datum} (h : ¬ isNum d) : d.order d = none := by
  cases d with
  | nan => rfl
  | infinity => exact absurd trivial h
  | number => exact absurd trivial h

/-- The three tests of words. -/
def fOrd (x y : Nat) : Option Ordering := Go.FloatKind.f64.format.order x y
def ltF (x y : Nat) : Bool := fOrd x y == some .lt
def gtF (x y : Nat) : Bool := fOrd x y == some .gt
def eqF (x y : Nat) : Bool := fOrd x y == some .eq
def numF (x : Nat) : Prop := isNum (Go.FloatKind.f64.format.read x)
def kR (x : Nat) : Int := keyR (Go.FloatKind.f64.format.read x)
def kV (b : Int) (x : Nat) : Int := keyV b (Go.FloatKind.f64.format.read x)
def lowF (b : Int) (x : Nat) : Prop := low b (Go.FloatKind.f64.format.read x)
theorem ltF_key {b : Int} {x y : Nat} (hx : numF x) (hy : numF y) (lx : lowF b x) (ly : lowF b y) : ltF x y = true ↔ (kR x < kR y ∨ kR x = kR y ∧ kV b x < kV b y) := order_lt hx hy lx ly
theorem gtF_key {b : Int} {x y : Nat} (hx : numF x) (hy : numF y) (lx : lowF b x) (ly : lowF b y) : gtF x y = true ↔ (kR y < kR x ∨ kR y = kR x ∧ kV b y < kV b x) := order_gt hx hy lx ly
theorem eqF_key {b : Int} {x y : Nat} (hx : numF x) (hy : numF y) (lx : lowF b x) (ly : lowF b y) : eqF x y = true ↔ (kR x = kR y ∧ kV b x = kV b y) := by
  have h := order_eq hx hy lx ly
  refine Iff.trans h ?_
  show (¬ (kR x < kR y ∨ kR x = kR y ∧ kV b x < kV b y) ∧ ¬ (kR y < kR x ∨ kR y = kR x ∧ kV b y < kV b x)) ↔ _
  omega
theorem eqF_self {x : Nat} (hx : numF x) : eqF x x = true := by
  obtain ⟨b, hb⟩ : ∃ b, lowF b x := by
    unfold lowF
    cases Go.FloatKind.f64.format.read x with
    | number s m i => exact ⟨i, Int.le_refl _⟩
    | infinity => exact ⟨0, trivial⟩
    | nan => exact ⟨0, trivial⟩
  exact (eqF_key hx hx hb hb).2 ⟨rfl, rfl⟩
theorem low_mono {b b' : Int} {x : Nat} (h : lowF b x) (hb : b' ≤ b) : lowF b' x := by
  unfold lowF at *
  cases hr : Go.FloatKind.f64.format.read x with
  | number s m i => rw [hr] at h; exact Int.le_trans hb h
  | infinity => trivial
  | nan => trivial
theorem low_all (xs : List Nat) : ∃ b, ∀ x ∈ xs, lowF b x := by
  induction xs with
  | nil => exact ⟨0, fun x h => by cases h⟩
  | cons y ys ih =>
    obtain ⟨b, hb⟩ := ih
    obtain ⟨c, hc⟩ : ∃ c, lowF c y := by
      unfold lowF
      cases Go.FloatKind.f64.format.read y with
      | number s m i => exact ⟨i, Int.le_refl _⟩
      | infinity => exact ⟨0, trivial⟩
      | nan => exact ⟨0, trivial⟩
    refine ⟨min b c, fun x hx => ?_⟩
    rcases List.mem_cons.1 hx with rfl | hx
    · exact low_mono hc (by omega)
    · exact low_mono (hb x hx) (by omega)

/-- The foremost one of a list, by a test. -/
def foreF (lt : Nat → Nat → Bool) : List Nat → Nat
  | [] => 0
  | x :: xs => xs.foldl (fun m y => if lt y m then y else m) x
theorem foreF_one (lt : Nat → Nat → Bool) (x : Nat) : foreF lt [x] = x := rfl
theorem foreF_snoc (lt : Nat → Nat → Bool) (xs : List Nat) (y : Nat) (h : xs ≠ []) : foreF lt (xs ++ [y]) = if lt y (foreF lt xs) then y else foreF lt xs := by
  cases xs with
  | nil => exact absurd rfl h
  | cons x xs =>
    show (xs ++ [y]).foldl _ x = _
    rw [List.foldl_append]
    rfl
theorem fore_mem (lt : Nat → Nat → Bool) (xs : List Nat) (h : xs ≠ []) : foreF lt xs ∈ xs := by
  have key : ∀ (ys : List Nat) (m : Nat), ys.foldl (fun m y => if lt y m then y else m) m ∈ m :: ys := by
    intro ys
    induction ys with
    | nil => intro m; simp
    | cons y ys ih =>
      intro m
      rw [List.foldl_cons]
      by_cases hl : lt y m = true
      · rw [if_pos hl]
        exact List.mem_cons_of_mem _ (ih y)
      · rw [if_neg hl]
        rcases List.mem_cons.1 (ih m) with e | e
        · rw [e]; simp
        · exact List.mem_cons_of_mem _ (List.mem_cons_of_mem _ e)
  cases xs with
  | nil => exact absurd rfl h
  | cons x xs => exact key xs x
/-- None is ahead of the foremost one. -/
theorem fore_best (lt : Nat → Nat → Bool) (P : Nat → Prop) (ht : ∀ x y z, P x → P y → P z → lt x y = true → lt z y = false → lt z x = false) (hi : ∀ x, P x → lt x x = false) (xs : List Nat) (hP : ∀ x ∈ xs, P x) : ∀ x ∈ xs, lt x (foreF lt xs) = false := by
  have key : ∀ (ys : List Nat) (m : Nat) (pre : List Nat), P m → (∀ y ∈ ys, P y) → (∀ z ∈ pre, P z) → (∀ z ∈ pre, lt z m = false) → lt m m = false → ∀ z, z ∈ pre ∨ z = m ∨ z ∈ ys → lt z (ys.foldl (fun m y => if lt y m then y else m) m) = false := by
    intro ys
    induction ys with
    | nil =>
      intro m pre _ _ _ hz hm z h
      rcases h with h | h | h
      · exact hz z h
      · rw [h]; exact hm
      · cases h
    | cons y ys ih =>
      intro m pre hPm hPy hPp hz hm z h
      rw [List.foldl_cons]
      have hy := hPy y (by simp)
      by_cases hl : lt y m = true
      · rw [if_pos hl]
        refine ih y (m :: pre) hy (fun q hq => hPy q (by simp [hq])) (fun q hq => ?_) (fun q hq => ?_) (hi y hy) z ?_
        · rcases List.mem_cons.1 hq with rfl | hq
          · exact hPm
          · exact hPp q hq
        · rcases List.mem_cons.1 hq with rfl | hq
          · exact ht y q q hy hPm hPm hl hm
          · exact ht y m q hy hPm (hPp q hq) hl (hz q hq)
        · rcases h with h | h | h
          · exact Or.inl (by simp [h])
          · exact Or.inl (by simp [h])
          · rcases List.mem_cons.1 h with h | h
            · exact Or.inr (Or.inl h)
            · exact Or.inr (Or.inr h)
      · rw [if_neg hl]
        refine ih m (y :: pre) hPm (fun q hq => hPy q (by simp [hq])) (fun q hq => ?_) (fun q hq => ?_) hm z ?_
        · rcases List.mem_cons.1 hq with rfl | hq
          · exact hy
          · exact hPp q hq
        · rcases List.mem_cons.1 hq with rfl | hq
          · simpa using hl
          · exact hz q hq
        · rcases h with h | h | h
          · exact Or.inl (by simp [h])
          · exact Or.inr (Or.inl h)
          · rcases List.mem_cons.1 h with h | h
            · exact Or.inl (by simp [h])
            · exact Or.inr (Or.inr h)
  cases xs with
  | nil => intro x h; cases h
  | cons x xs =>
    intro z hz
    have hx := hP x (by simp)
    refine key xs x [] hx (fun q hq => hP q (by simp [hq])) (fun q hq => by cases hq) (fun q hq => by cases hq) (hi x hx) z ?_
    rcases List.mem_cons.1 hz with h | h
    · exact Or.inr (Or.inl h)
    · exact Or.inr (Or.inr h)
theorem least_best (xs : List Nat) (hn : ∀ x ∈ xs, numF x) : ∀ x ∈ xs, ltF x (foreF ltF xs) = false := by
  obtain ⟨b, hb⟩ := low_all xs
  refine fore_best ltF (fun x => numF x ∧ lowF b x) (fun x y z hx hy hz h1 h2 => ?_) (fun x hx => ?_) xs (fun x hx => ⟨hn x hx, hb x hx⟩)
  · rw [ltF_key hx.1 hy.1 hx.2 hy.2] at h1
    rw [← Bool.not_eq_true, ltF_key hz.1 hy.1 hz.2 hy.2] at h2
    rw [← Bool.not_eq_true, ltF_key hz.1 hx.1 hz.2 hx.2]
    omega
  · rw [← Bool.not_eq_true, ltF_key hx.1 hx.1 hx.2 hx.2]
    omega
theorem most_best (xs : List Nat) (hn : ∀ x ∈ xs, numF x) : ∀ x ∈ xs, gtF x (foreF gtF xs) = false := by
  obtain ⟨b, hb⟩ := low_all xs
  refine fore_best gtF (fun x => numF x ∧ lowF b x) (fun x y z hx hy hz h1 h2 => ?_) (fun x hx => ?_) xs (fun x hx => ⟨hn x hx, hb x hx⟩)
  · rw [gtF_key hx.1 hy.1 hx.2 hy.2] at h1
    rw [← Bool.not_eq_true, gtF_key hz.1 hy.1 hz.2 hy.2] at h2
    rw [← Bool.not_eq_true, gtF_key hz.1 hx.1 hz.2 hx.2]
    omega
  · rw [← Bool.not_eq_true, gtF_key hx.1 hx.1 hx.2 hx.2]
    omega
end Go.Proofs.Ytmfkccdlblebjaa
