import Derived.Test.YtilgkfpicdmkkaaMSortP
import Derived.Test.YtilgkfpicdmkkaaMCellP
import Derived.Test.YtilgkfpicdmkkaaMListsI
import Derived.Test.YtilgkfpicdmkkaaMRowsW
/- MergeLong's lists: every so-many-th number; all of them together are all numbers. Nothing of the program is used here but the order of rows and numbers. -/
namespace Go.Proofs.Ytilgkfpicdmkkaa.M

/-- Every K-th number below n, from k on. -/
def Ser (K n k : Nat) (l : List Nat) : Prop := ∃ j, l = (List.range j).map (fun t => k + t * K) ∧ n ≤ k + j * K ∧ ∀ t, t < j → k + t * K < n
theorem Ser.mem {K n k : Nat} {l : List Nat} (h : Ser K n k l) (hk : k < K) {x : Nat} : x ∈ l ↔ x < n ∧ x % K = k := by
  obtain ⟨j, rfl, h1, h2⟩ := h
  rw [List.mem_map]
  constructor
  · rintro ⟨t, ht, rfl⟩
    refine ⟨h2 t (by simpa using ht), ?_⟩
    rw [Nat.add_mul_mod_self_right, Nat.mod_eq_of_lt hk]
  · rintro ⟨hx, hm⟩
    refine ⟨x / K, ?_, ?_⟩
    · rw [List.mem_range]
      rcases Nat.lt_or_ge (x / K) j with h3 | h3
      · exact h3
      · exfalso
        have h4 := Nat.mod_add_div x K
        rw [Nat.mul_comm] at h4
        have h5 : j * K ≤ x / K * K := Nat.mul_le_mul_right K h3
        omega
    · have h4 := Nat.mod_add_div x K
      rw [Nat.mul_comm] at h4
      omega
theorem Ser.rise {K n k : Nat} {l : List Nat} (h : Ser K n k l) (hK : 0 < K) : l.Pairwise (fun a b => a < b) := by
  obtain ⟨j, rfl, _, _⟩ := h
  rw [List.pairwise_map]
  exact List.pairwise_lt_range.imp (fun {a b} hab => by
    have : a * K < b * K := Nat.mul_lt_mul_of_pos_right hab hK
    omega)
theorem ser_flat {K n : Nat} (hK : 0 < K) {ls : List (List Nat)} (hl : ls.length = K) (h : ∀ p (hp : p < ls.length), Ser K n p ls[p]) : (List.range n).Perm ls.flatten := by
  refine (List.perm_ext_iff_of_nodup List.nodup_range ?_).2 (fun a => ?_)
  · unfold List.Nodup
    rw [List.pairwise_flatten]
    refine ⟨fun l hl2 => ?_, ?_⟩
    · obtain ⟨p, hp, rfl⟩ := List.mem_iff_getElem.1 hl2
      exact ((h p hp).rise hK).imp (fun h => Nat.ne_of_lt h)
    · rw [List.pairwise_iff_getElem]
      intro i j hi hj hij a ha b hb e
      have h1 := ((h i hi).mem (by omega)).1 ha
      have h2 := ((h j hj).mem (by omega)).1 hb
      rw [e] at h1
      omega
  · rw [List.mem_range, List.mem_flatten]
    constructor
    · intro ha
      have hm : a % K < ls.length := by rw [hl]; exact Nat.mod_lt _ hK
      exact ⟨ls[a % K], List.getElem_mem hm, ((h _ hm).mem (by omega)).2 ⟨ha, rfl⟩⟩
    · rintro ⟨l, hl2, ha⟩
      obtain ⟨p, hp, rfl⟩ := List.mem_iff_getElem.1 hl2
      exact (((h p hp).mem (by omega)).1 ha).1
/-- The i-th row. -/
def rwN (K i : Nat) : Rw := ⟨⟨0, ⟨#[107]⟩, (i : Int)⟩, ((i % K + 1 : Nat) : Int), 0, 0, 0⟩
theorem cmE_rwN (K i j : Nat) : W.cmE (rwN K i) (rwN K j) = cmpI (i : Int) (j : Int) := by
  unfold W.cmE rwN cmpC
  dsimp only
  rw [if_neg (by rw [cmpI_zero.2 rfl]; decide), cb_self, if_neg (by decide)]
theorem merged_map {T : Type} [Inhabited T] {cm : T → T → Int} (C : Cm cm) (f : Nat → T) (hf : ∀ i j, cm (f i) (f j) = cmpI (i : Int) (j : Int)) {K n : Nat} (hK : 0 < K) {ls : List (List Nat)} (hl : ls.length = K) (h : ∀ p (hp : p < ls.length), Ser K n p ls[p]) : merged cm (ls.map (fun l => l.map f)) = (List.range n).map f := by
  refine merged_one C _ _ (fun l hl2 => ?_) ?_ ?_ (fun a ha b hb e => ?_)
  · obtain ⟨l', hl', rfl⟩ := List.mem_map.1 hl2
    obtain ⟨p, hp, rfl⟩ := List.mem_iff_getElem.1 hl'
    rw [List.pairwise_map]
    exact ((h p hp).rise hK).imp (fun {a b} hab => by rw [hf, cmpI_le]; omega)
  · rw [← List.map_flatten]
    exact (ser_flat hK hl h).map f
  · rw [List.pairwise_map]
    exact List.pairwise_lt_range.imp (fun {a b} hab => by rw [hf, cmpI_le]; omega)
  · obtain ⟨i, _, rfl⟩ := List.mem_map.1 ha
    obtain ⟨j, _, rfl⟩ := List.mem_map.1 hb
    rw [hf, cmpI_zero] at e
    have : i = j := by omega
    rw [this]
theorem ded_rise (n : Nat) : I.ded ((List.range n).map (fun i : Nat => (i : Int))) = (List.range n).map (fun i : Nat => (i : Int)) := by
  induction n with
  | zero => rfl
  | succ n ih =>
    rw [List.range_succ, List.map_append, List.map_singleton, I.ded_snoc, ih]
    unfold I.dd
    rw [if_pos ?_]
    cases n with
    | zero => exact Or.inl rfl
    | succ n =>
      right
      rw [List.range_succ, List.map_append, List.map_singleton, List.getLast?_append]
      simp [I.ltE]
      omega
theorem tot_ser {K n : Nat} (hK : 0 < K) {ls : List (List Nat)} (hl : ls.length = K) (h : ∀ p (hp : p < ls.length), Ser K n p ls[p]) {T : Type} (f : Nat → T) : tot (ls.map (fun l => l.map f)) = n := by
  have h1 := (ser_flat hK hl h).length_eq
  rw [List.length_range] at h1
  rw [h1, List.length_flatten]
  unfold tot
  rw [List.map_map]
  congr 1
  apply List.map_congr_left
  intro l _
  simp
end Go.Proofs.Ytilgkfpicdmkkaa.M
