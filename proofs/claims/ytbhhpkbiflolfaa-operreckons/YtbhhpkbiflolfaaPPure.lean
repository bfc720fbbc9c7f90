/- Windows of event time: whole numbers alone. Nothing of the program is used here. -/
import Derived.WalkKit
namespace Go.Proofs.Ytbhhpkbiflolfaa

/-- A number fits 64 bits with a sign. -/
def fits (x : Int) : Prop := -9223372036854775808 ≤ x ∧ x ≤ 9223372036854775807
instance (x : Int) : Decidable (fits x) := by unfold fits; exact inferInstance

/-- A view that is right: Size, Slide, Late. -/
structure OkV (s d l : Int) : Prop where
  s1 : 1 ≤ s
  s2 : s ≤ 1099511627776
  d1 : 1 ≤ d
  d2 : d ≤ 1099511627776
  l1 : 0 ≤ l
  l2 : l ≤ 1099511627776
  sd : s ≤ 64 * d
theorem okV_iff (s d l : Int) : OkV s d l ↔ (1 ≤ s ∧ s ≤ 1099511627776 ∧ 1 ≤ d ∧ d ≤ 1099511627776 ∧ 0 ≤ l ∧ l ≤ 1099511627776 ∧ s ≤ 64 * d) :=
  ⟨fun h => ⟨h.s1, h.s2, h.d1, h.d2, h.l1, h.l2, h.sd⟩, fun h => ⟨h.1, h.2.1, h.2.2.1, h.2.2.2.1, h.2.2.2.2.1, h.2.2.2.2.2.1, h.2.2.2.2.2.2⟩⟩
instance (s d l : Int) : Decidable (OkV s d l) := decidable_of_iff _ (okV_iff s d l).symm

/-- The number of the least window that ends behind a time: the least k with t < k * d + s. -/
def oldK (s d t : Int) : Int := (t - s) / d + 1
theorem oldK_le {s d t k : Int} (hd : 1 ≤ d) : oldK s d t ≤ k ↔ t < k * d + s := by
  unfold oldK
  have h : (t - s) / d < k ↔ t - s < k * d := Int.ediv_lt_iff_lt_mul (by omega)
  constructor
  · intro hk
    have := h.1 (by omega)
    omega
  · intro hk
    have := h.2 (by omega)
    omega
theorem oldK_gt {s d t k : Int} (hd : 1 ≤ d) : k < oldK s d t ↔ k * d + s ≤ t := by
  have := @oldK_le s d t k hd
  omega

/-- How many windows a time has, where the first is number k. -/
def numP (s d t : Int) : Nat := (t / d - oldK s d t + 1).toNat

/-- The quotient that is cut towards 0, its product: near the time. -/
theorem tdiv_near {t d : Int} (hd : 1 ≤ d) : t - d < t.tdiv d * d ∧ t.tdiv d * d < t + d := by
  have h := Int.tmod_add_mul_tdiv t d
  have h1 := Int.tmod_lt_of_pos t (show 0 < d by omega)
  have h2 : -d < t.tmod d := Int.lt_tmod_of_pos t (show 0 < d by omega)
  have h3 : d * t.tdiv d = t.tdiv d * d := Int.mul_comm _ _
  omega

/-- The starts of the windows that have a time, rising. -/
def startsL (s d t : Int) : List Int := (List.range (numP s d t)).map fun (i : Nat) => (oldK s d t + (i : Int)) * d
theorem startsL_length (s d t : Int) : (startsL s d t).length = numP s d t := by simp [startsL]

theorem div_near {t d : Int} (hd : 1 ≤ d) : t / d * d ≤ t ∧ t < t / d * d + d := by
  have h := Int.emod_add_mul_ediv t d
  have h1 := Int.emod_lt_of_pos t (show 0 < d by omega)
  have h2 := Int.emod_nonneg t (show d ≠ 0 by omega)
  have h3 : d * (t / d) = t / d * d := Int.mul_comm _ _
  omega
theorem mul_mono {a b d : Int} (h : a ≤ b) (hd : 0 ≤ d) : a * d ≤ b * d := Int.mul_le_mul_of_nonneg_right h hd
theorem mul_lt {a b d : Int} (hd : 0 < d) : a * d < b * d ↔ a < b := ⟨fun h => Int.lt_of_mul_lt_mul_right h (Int.le_of_lt hd), fun h => Int.mul_lt_mul_of_pos_right h hd⟩
/-- Numbers of windows: the oldest is at most one behind the last that begins by the time. -/
theorem oldK_div {s d t : Int} (hs : 1 ≤ s) (hd : 1 ≤ d) : oldK s d t ≤ t / d + 1 := by
  rw [oldK_le hd]
  have := div_near (t := t) hd
  rw [Int.add_mul, Int.one_mul]
  omega
theorem oldK_far {s d t : Int} (hs : s ≤ 64 * d) (hd : 1 ≤ d) : t / d - 64 < oldK s d t := by
  have h : ¬ oldK s d t ≤ t / d - 64 := by
    rw [oldK_le hd]
    have := div_near (t := t) hd
    rw [Int.sub_mul]
    omega
  omega
theorem numP_le {s d t : Int} (hs : s ≤ 64 * d) (hd : 1 ≤ d) : numP s d t ≤ 64 := by
  have := oldK_far (t := t) hs hd
  unfold numP
  omega
/-- What Starts reckons: how many windows there are. -/
theorem panes_eq {s d t : Int} (hs : 1 ≤ s) (hd : 1 ≤ d) : (t - oldK s d t * d + d).tdiv d = (numP s d t : Int) := by
  have hk := oldK_div (t := t) hs hd
  have hn := div_near (t := t) hd
  have e : t - oldK s d t * d + d = (t - t / d * d) + (t / d - oldK s d t + 1) * d := by
    rw [Int.add_mul, Int.sub_mul, Int.one_mul]
    omega
  have h0 : 0 ≤ (t / d - oldK s d t + 1) * d := Int.mul_nonneg (by omega) (by omega)
  rw [Int.tdiv_eq_ediv_of_nonneg (by omega), e, Int.add_mul_ediv_right _ _ (by omega), Int.ediv_eq_zero_of_lt (by omega) (by omega)]
  unfold numP
  omega
theorem startsL_get {s d t : Int} {i : Nat} (h : i < numP s d t) : (startsL s d t).getD i 0 = (oldK s d t + (i : Int)) * d := by
  simp [startsL, List.getD, h]
/-- The starts lie near the time. -/
theorem startsL_mem {s d t x : Int} (hs : 1 ≤ s) (hd : 1 ≤ d) : x ∈ startsL s d t ↔ ∃ k : Int, x = k * d ∧ x ≤ t ∧ t < x + s := by
  have hk := oldK_div (t := t) hs hd
  have hn := div_near (t := t) hd
  constructor
  · intro h
    simp only [startsL, List.mem_map, List.mem_range] at h
    obtain ⟨i, hi, rfl⟩ := h
    refine ⟨oldK s d t + i, rfl, ?_, ?_⟩
    · have h1 : oldK s d t + (i : Int) ≤ t / d := by unfold numP at hi; omega
      have := mul_mono h1 (show 0 ≤ d by omega)
      omega
    · exact (oldK_le hd).1 (by omega)
  · rintro ⟨k, rfl, h1, h2⟩
    have h3 := (oldK_le hd).2 h2
    have h4 : k ≤ t / d := by
      have : ¬ t / d + 1 ≤ k := by
        intro h
        have := mul_mono h (show 0 ≤ d by omega)
        rw [Int.add_mul, Int.one_mul] at this
        omega
      omega
    simp only [startsL, List.mem_map, List.mem_range]
    exact ⟨(k - oldK s d t).toNat, by unfold numP; omega, by congr 1; omega⟩
end Go.Proofs.Ytbhhpkbiflolfaa
