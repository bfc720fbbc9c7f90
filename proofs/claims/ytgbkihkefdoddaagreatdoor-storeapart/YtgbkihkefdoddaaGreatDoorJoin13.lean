/- Shards as lists of cells with versions: which cells may be, their texts, what Put, Kill, Get make of them. Nothing of the program is used here. -/
import Derived.Test.YtgbkihkefdoddaaGreatDoorJoin1
import Derived.Test.YtgbkihkefdoddaaGreatDoorJoin8
import Derived.Test.YtgbkihkefdoddaaGreatDoorJoin2
namespace Go.Proofs.YtgbkihkefdoddaaGreatDoor.S
open G

/-- A cell: view, key, start. -/
structure Cl where
  v : Int
  k : ByteArray
  s : Int

/-- The error of a cell that may not be; 0: it may. -/
def mayE (c : Cl) : Int := if c.v < 0 ∨ 4 ≤ c.v then 23 else if c.k.size < 1 ∨ 32 < c.k.size then 21 else if c.s < -2305843009213693952 ∨ 2305843009213693952 < c.s then 22 else 0
theorem mayE_zero {c : Cl} (h : mayE c = 0) : (0 ≤ c.v ∧ c.v < 4) ∧ (1 ≤ c.k.size ∧ c.k.size ≤ 32) ∧ (-2305843009213693952 ≤ c.s ∧ c.s ≤ 2305843009213693952) := by
  unfold mayE at h
  by_cases h1 : c.v < 0 ∨ 4 ≤ c.v
  · rw [if_pos h1] at h; cases h
  · rw [if_neg h1] at h
    by_cases h2 : c.k.size < 1 ∨ 32 < c.k.size
    · rw [if_pos h2] at h; cases h
    · rw [if_neg h2] at h
      by_cases h3 : c.s < -2305843009213693952 ∨ 2305843009213693952 < c.s
      · rw [if_pos h3] at h; cases h
      · omega

/-- Bytes in which each nought has a one behind it. -/
def esc : List Nat → List Nat
  | [] => []
  | x :: l => if x = 0 then 0 :: 1 :: esc l else x :: esc l
theorem esc_le (l : List Nat) : (esc l).length ≤ 2 * l.length := by
  induction l with
  | nil => simp [esc]
  | cons x l ih => unfold esc; split <;> simp <;> omega
/-- The eight bytes of a number, the highest first. -/
def be8 (n : Nat) : List Nat := [n / 72057594037927936 % 256, n / 281474976710656 % 256, n / 1099511627776 % 256, n / 4294967296 % 256, n / 16777216 % 256, n / 65536 % 256, n / 256 % 256, n % 256]
theorem be8_len (n : Nat) : (be8 n).length = 8 := rfl
theorem be8_inj {a b : Nat} (ha : a < 18446744073709551616) (hb : b < 18446744073709551616) (h : be8 a = be8 b) : a = b := by
  unfold be8 at h
  simp only [List.cons.injEq, and_true] at h
  omega
def stN (c : Cl) : Nat := (c.s + 9223372036854775808).toNat
/-- A cell's text. -/
def txt (c : Cl) : List Nat := c.v.toNat :: (esc (nums8 c.k) ++ (0 :: 0 :: be8 (stN c)))
def key (c : Cl) : ByteArray := str8 (txt c)
theorem esc_inj : ∀ (a b t u : List Nat), esc a ++ (0 :: 0 :: t) = esc b ++ (0 :: 0 :: u) → a = b ∧ t = u
  | [], [], t, u, h => by simpa [esc] using h
  | [], y :: b, t, u, h => by
    unfold esc at h
    by_cases hy : y = 0
    · simp [hy] at h
    · simp [hy] at h
      exact absurd h.1.symm hy
  | x :: a, [], t, u, h => by
    unfold esc at h
    by_cases hx : x = 0
    · simp [hx] at h
    · simp [hx] at h
  | x :: a, y :: b, t, u, h => by
    unfold esc at h
    by_cases hx : x = 0
    · by_cases hy : y = 0
      · simp only [hx, hy, if_true, List.cons_append, List.cons.injEq, true_and] at h
        obtain ⟨h1, h2⟩ := esc_inj a b t u h
        exact ⟨by rw [hx, hy, h1], h2⟩
      · rw [if_pos hx, if_neg hy] at h
        simp only [List.cons_append, List.cons.injEq] at h
        exact absurd h.1.symm hy
    · by_cases hy : y = 0
      · rw [if_neg hx, if_pos hy] at h
        simp only [List.cons_append, List.cons.injEq] at h
        exact absurd h.1 hx
      · simp only [hx, hy, if_false, List.cons_append, List.cons.injEq] at h
        obtain ⟨h1, h2⟩ := esc_inj a b t u h.2
        exact ⟨by rw [h.1, h1], h2⟩
theorem esc_byte : ∀ (l : List Nat), (∀ x ∈ l, x < 256) → ∀ x ∈ esc l, x < 256
  | [], _, x, hx => by simp [esc] at hx
  | y :: l, h, x, hx => by
    unfold esc at hx
    have ih := esc_byte l (fun z hz => h z (List.mem_cons_of_mem _ hz))
    split at hx
    · rcases List.mem_cons.1 hx with rfl | hx
      · omega
      · rcases List.mem_cons.1 hx with rfl | hx
        · omega
        · exact ih x hx
    · rcases List.mem_cons.1 hx with rfl | hx
      · exact h _ (by simp)
      · exact ih x hx
theorem nums8_byte (s : ByteArray) : ∀ x ∈ nums8 s, x < 256 := by
  intro x hx
  unfold nums8 at hx
  obtain ⟨u, _, rfl⟩ := List.mem_map.1 hx
  exact u.toNat_lt
theorem nums8_inj {a b : ByteArray} (h : nums8 a = nums8 b) : a = b := by
  have : a.data.toList = b.data.toList := by
    unfold nums8 at h
    exact (List.map_inj_right (fun x y h => UInt8.toNat_inj.1 h)).1 h
  cases a
  cases b
  congr
  exact Array.ext' this
theorem str8_inj : ∀ {a b : List Nat}, (∀ x ∈ a, x < 256) → (∀ x ∈ b, x < 256) → str8 a = str8 b → a = b := by
  intro a b ha hb h
  have h1 := congrArg (fun s => s.data.toList.map UInt8.toNat) h
  simp only [str8, List.map_map] at h1
  have e : ∀ l : List Nat, (∀ x ∈ l, x < 256) → l.map (UInt8.toNat ∘ fun n => UInt8.ofNat n) = l := by
    intro l hl
    conv => rhs; rw [← List.map_id l]
    apply List.map_congr_left
    intro x hx
    have := hl x hx
    simp
    omega
  rw [e a ha, e b hb] at h1
  exact h1
theorem be8_byte (n : Nat) : ∀ x ∈ be8 n, x < 256 := by
  intro x hx
  simp only [be8, List.mem_cons, List.not_mem_nil, or_false] at hx
  omega
theorem txt_byte {c : Cl} (h : mayE c = 0) : ∀ x ∈ txt c, x < 256 := by
  intro x hx
  obtain ⟨⟨h1, h2⟩, _, _⟩ := mayE_zero h
  simp only [txt, List.mem_cons, List.mem_append] at hx
  rcases hx with rfl | hx | rfl | rfl | hx
  · omega
  · exact esc_byte _ (nums8_byte c.k) x hx
  · omega
  · omega
  · exact be8_byte _ x hx
/-- Unlike cells have unlike texts. -/
theorem txt_inj {c d : Cl} (hc : mayE c = 0) (hd : mayE d = 0) (h : txt c = txt d) : c = d := by
  obtain ⟨⟨c1, c2⟩, _, c3, c4⟩ := mayE_zero hc
  obtain ⟨⟨d1, d2⟩, _, d3, d4⟩ := mayE_zero hd
  unfold txt at h
  simp only [List.cons.injEq] at h
  obtain ⟨h1, h2⟩ := h
  obtain ⟨h3, h4⟩ := esc_inj _ _ _ _ h2
  have h5 := be8_inj (by unfold stN; omega) (by unfold stN; omega) h4
  have h6 := nums8_inj h3
  unfold stN at h5
  have h7 : c.v = d.v := by omega
  have h8 : c.s = d.s := by omega
  cases c
  cases d
  simp only at h6 h7 h8
  rw [h6, h7, h8]
theorem key_inj {c d : Cl} (hc : mayE c = 0) (hd : mayE d = 0) (h : key c = key d) : c = d := txt_inj hc hd (str8_inj (txt_byte hc) (txt_byte hd) h)
theorem txt_len {c : Cl} (h : mayE c = 0) : (txt c).length ≤ 75 := by
  obtain ⟨_, ⟨_, h2⟩, _⟩ := mayE_zero h
  have := esc_le (nums8 c.k)
  have h3 := nums8_length c.k
  simp only [txt, List.length_cons, List.length_append, be8_len]
  omega
theorem key_size {c : Cl} (h : mayE c = 0) : (key c).size ≤ 9223372036854775807 := by
  unfold key
  rw [str8_size]
  have := txt_len h
  omega
end Go.Proofs.YtgbkihkefdoddaaGreatDoor.S
