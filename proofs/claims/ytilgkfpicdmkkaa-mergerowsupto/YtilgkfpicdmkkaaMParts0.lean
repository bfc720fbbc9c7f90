/- Literals of two or three lists of rows handed to Rows; what MergeParts wants of merging. -/
import Derived.Test.YtilgkfpicdmkkaaMOrd
namespace Go.Proofs.Ytilgkfpicdmkkaa.M
open Go.RowKit

theorem lit_own (V : World) (us : List Value) (h : us.length ≤ 1000) : (V.alloc (.cells us.toArray 22)).ownsRow V.heap.size 22 1 (.slice (some ⟨V.heap.size, 0, none⟩) us.length us.length) us.length us := by
  have := World.ownsRow_lit (size := 1) (e := 22) V us.toArray us.length (Nat.le_refl _) (by unfold maxLen; omega) (by simp)
  simpa using this
theorem lit_sp {w V : World} {us : List Value} {ls : List (List Rw)} (hl : us.length = ls.length) (hb : us.length ≤ 1000) (hf : Fr w V (fun _ => False)) (h : ∀ p (hp : p < us.length) (hq : p < ls.length), V.ownsRow w.heap.size 54 7 us[p] ls[p].length (rc ls[p])) :
    SpR w (V.alloc (.cells us.toArray 22)) (.slice (some ⟨V.heap.size, 0, none⟩) us.length us.length) us ls :=
  ⟨own_mono (lit_own V us hb) hf.size, hl, fun p hp hq => own_fr (h p hp hq) (alloc_fr V _ _) (fun _ _ h => h), hf.alloc _⟩
theorem rows_lit {w V U : World} {us : List Value} {ls : List (List Rw)} (most : Int) (hl : us.length = ls.length) (hb : us.length ≤ 1000) (hf : Fr w V (fun _ => False)) (h : ∀ p (hp : p < us.length) (hq : p < ls.length), V.ownsRow w.heap.size 54 7 us[p] ls[p].length (rc ls[p])) (ht : tot ls ≤ 1000000000) (hu : Fr (V.alloc (.cells us.toArray 22)) U (fun _ => False)) :
    Calls Try.prog 10 #[.int .i64 most, .slice (some ⟨V.heap.size, 0, none⟩) us.length us.length] U fun e w' => ∃ v, e = .returned v ∧ M.W.Ro7 w w' v ((merged M.W.cmE ls).take most.toNat) ∧ Fr V w' (fun _ => False) := by
  have hs := (lit_sp hl hb hf h).step hu
  obtain ⟨sv, hat⟩ := hs.at (by omega)
  refine (M.W.rows_any most _ hat ht).mono ?_
  rintro e w' ⟨v, rfl, hr⟩
  have h2 := (alloc_fr V (.cells us.toArray 22) (fun _ => False)).trans (hu.trans hr.2)
  exact ⟨v, rfl, Ro7.behind hr ((hf.alloc _).trans hu), h2⟩
theorem rows3 {w V U : World} {u1 u2 u3 : Value} {l1 l2 l3 : List Rw} (most : Int) (h1 : M.W.Ro7 w V u1 l1) (h2 : M.W.Ro7 w V u2 l2) (h3 : M.W.Ro7 w V u3 l3) (ht : l1.length + l2.length + l3.length ≤ 1000000) (hu : Fr (V.alloc (.cells #[u1, u2, u3] 22)) U (fun _ => False)) :
    Calls Try.prog 10 #[.int .i64 most, .slice (some ⟨V.heap.size, 0, none⟩) 3 3] U fun e w' => ∃ v, e = .returned v ∧ M.W.Ro7 w w' v ((merged M.W.cmE [l1, l2, l3]).take most.toNat) ∧ Fr V w' (fun _ => False) :=
  rows_lit (us := [u1, u2, u3]) (ls := [l1, l2, l3]) most rfl (by simp) h1.2 (fun p hp hq => by
    match p, hp with
    | 0, _ => exact h1.1
    | 1, _ => exact h2.1
    | 2, _ => exact h3.1) (by simp [tot]; omega) hu
theorem rows2 {w V U : World} {u1 u2 : Value} {l1 l2 : List Rw} (most : Int) (h1 : M.W.Ro7 w V u1 l1) (h2 : M.W.Ro7 w V u2 l2) (ht : l1.length + l2.length ≤ 1000000) (hu : Fr (V.alloc (.cells #[u1, u2] 22)) U (fun _ => False)) :
    Calls Try.prog 10 #[.int .i64 most, .slice (some ⟨V.heap.size, 0, none⟩) 2 2] U fun e w' => ∃ v, e = .returned v ∧ M.W.Ro7 w w' v ((merged M.W.cmE [l1, l2]).take most.toNat) ∧ Fr V w' (fun _ => False) :=
  rows_lit (us := [u1, u2]) (ls := [l1, l2]) most rfl (by simp) h1.2 (fun p hp hq => by
    match p, hp with
    | 0, _ => exact h1.1
    | 1, _ => exact h2.1) (by simp [tot]; omega) hu

/-- What is known of three lists and of all. -/
structure Pa (X Y Z L : List Rw) : Prop where
  bx : X.length ≤ 200
  by' : Y.length ≤ 200
  bz : Z.length ≤ 200
  len : L.length = X.length + Y.length + Z.length
  all : (merged M.W.cmE [X, Y, Z]).take 1000 = L
  adj : ∀ i, i + 1 < L.length → cmpC (L[i]?.getD default).c (L[i + 1]?.getD default).c ≤ 0
  most : ∀ k, (merged M.W.cmE [X, Y, Z]).take k = L.take k
  left : (merged M.W.cmE [(merged M.W.cmE [X, Y]).take 1000, Z]).take 1000 = L
  right : (merged M.W.cmE [X, (merged M.W.cmE [Y, Z]).take 1000]).take 1000 = L
  turn : (∀ i, i + 1 < L.length → cmpC (L[i]?.getD default).c (L[i + 1]?.getD default).c ≠ 0) → (merged M.W.cmE [Z, X, Y]).take 1000 = L
  l2 : ((merged M.W.cmE [X, Y]).take 1000).length ≤ 1000 ∧ ((merged M.W.cmE [Y, Z]).take 1000).length ≤ 1000
theorem pa_any (A B C : List Rw) : Pa (ordL (A.take 200)) (ordL (B.take 200)) (ordL (C.take 200)) (merged M.W.cmE [ordL (A.take 200), ordL (B.take 200), ordL (C.take 200)]) := by
  have bx := ordL_len2 A 200
  have by' := ordL_len2 B 200
  have bz := ordL_len2 C 200
  have hx := ordL_rise (A.take 200)
  have hy := ordL_rise (B.take 200)
  have hz := ordL_rise (C.take 200)
  generalize ordL (A.take 200) = X at *
  generalize ordL (B.take 200) = Y at *
  generalize ordL (C.take 200) = Z at *
  have hl := merged_len M.W.cmE_cm [X, Y, Z]
  have h3 : ∀ l ∈ [X, Y, Z], l.Pairwise (fun a b => M.W.cmE a b ≤ 0) := by intro l hl; simp at hl; rcases hl with rfl | rfl | rfl <;> assumption
  have hs := merged_sorted M.W.cmE_cm _ h3
  have h12 := merged_len M.W.cmE_cm [X, Y]
  have h23 := merged_len M.W.cmE_cm [Y, Z]
  have h31 := merged_len M.W.cmE_cm [Z, X, Y]
  simp only [tot, List.map_cons, List.map_nil, List.sum_cons, List.sum_nil] at hl h12 h23 h31
  refine ⟨bx, by', bz, by omega, List.take_of_length_le (by omega), ?_, fun k => rfl, ?_, ?_, ?_, ?_⟩
  · intro i hi
    have := List.pairwise_iff_getElem.1 hs i (i + 1) (by omega) hi (by omega)
    rw [List.getElem?_eq_getElem (by omega), List.getElem?_eq_getElem hi]
    exact this
  · rw [List.take_of_length_le (l := merged M.W.cmE [X, Y]) (by omega), merged_left M.W.cmE_cm hx hy hz]
    exact List.take_of_length_le (by omega)
  · rw [List.take_of_length_le (l := merged M.W.cmE [Y, Z]) (by omega), merged_right M.W.cmE_cm hx hy hz]
    exact List.take_of_length_le (by omega)
  · intro hn
    rw [List.take_of_length_le (by omega)]
    have hu := rise_one hs hn
    refine merged_one M.W.cmE_cm _ _ (by intro l hl; simp at hl; rcases hl with rfl | rfl | rfl <;> assumption) ?_ hs hu
    refine (merged_perm M.W.cmE_cm _).trans ?_
    simp only [List.flatten_cons, List.flatten_nil, List.append_nil]
    have := List.perm_append_comm (l₁ := X ++ Y) (l₂ := Z)
    rw [List.append_assoc] at this
    exact this
  · rw [List.length_take, List.length_take]
    omega
end Go.Proofs.Ytilgkfpicdmkkaa.M
