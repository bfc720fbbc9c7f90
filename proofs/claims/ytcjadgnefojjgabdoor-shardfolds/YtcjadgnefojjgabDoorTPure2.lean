/- Tables: what laying and mending do to a row; what a table keeps. -/
import Derived.Test.YtcjadgnefojjgabDoorTPure
namespace Go.Proofs.YtcjadgnefojjgabDoor

theorem ds_inj {n h a b : Nat} (ha : a < n) (hb : b < n) (hh : h < n) (e : ds n h a = ds n h b) : a = b := by
  unfold ds at e
  split at e <;> split at e <;> omega

theorem layP_len (r : List Pl) (k : ByteArray) (v : Value) : (layP r k v).length = r.length := by simp [layP]
theorem homeL_len {r s : List Pl} (h : s.length = r.length) (k : ByteArray) : homeL s k = homeL r k := by unfold homeL; rw [h]

/-- How many are taken. -/
def cnt (r : List Pl) : Nat := r.countP (fun p => p.st == 1)
theorem cnt_le (r : List Pl) : cnt r ≤ r.length := List.countP_le_length
theorem at_get {r : List Pl} {i : Nat} (h : i < r.length) : at' r i = r[i] := by simp [at', List.getD, h]
theorem cnt_set (r : List Pl) (i : Nat) (p : Pl) (hi : i < r.length) : cnt (r.set i p) + (if (at' r i).st = 1 then 1 else 0) = cnt r + (if p.st = 1 then 1 else 0) := by
  unfold cnt
  rw [List.countP_set hi, at_get hi]
  have h2 : r[i].st = 1 → 0 < r.countP (fun p => p.st == 1) := fun h => List.countP_pos_iff.2 ⟨r[i], List.getElem_mem hi, by simp [h]⟩
  by_cases h1 : r[i].st = 1
  · have := h2 h1
    simp only [h1, beq_self_eq_true, if_true]
    by_cases h3 : p.st = 1 <;> simp [h3] <;> omega
  · by_cases h3 : p.st = 1 <;> simp [h1, h3]
theorem emp_of {r : List Pl} (hs : ∀ i, i < r.length → (at' r i).st ≤ 1) (hc : cnt r < r.length) : Emp r := by
  rcases Classical.em (Emp r) with h | h
  · exact h
  · exfalso
    have : ∀ i, i < r.length → (at' r i).st = 1 := by
      intro i hi
      have h1 := hs i hi
      have h2 : (at' r i).st ≠ 0 := fun e => h ⟨i, hi, e⟩
      omega
    have h3 : cnt r = r.length := by
      unfold cnt
      rw [List.countP_eq_length]
      intro p hp
      obtain ⟨i, hi, rfl⟩ := List.mem_iff_getElem.1 hp
      have := this i hi
      rw [at_get hi] at this
      simp [this]
    omega

/-- What lies in a row. -/
def Ent (r : List Pl) (k : ByteArray) (v : Value) : Prop := ∃ p, p < r.length ∧ at' r p = ⟨1, k, v⟩
theorem Ent.fnd {r : List Pl} {k : ByteArray} {v : Value} (h : Ent r k v) : ∃ i, Fnd r k i := by
  obtain ⟨p, hp, e⟩ := h
  exact ⟨p, hp, by rw [e], by rw [e]⟩
theorem Fnd.ent {r : List Pl} {k : ByteArray} {i : Nat} (h : Fnd r k i) : Ent r k (at' r i).val := by
  obtain ⟨h1, h2, h3⟩ := h
  refine ⟨i, h1, ?_⟩
  rw [← h2, ← h3]

section lay
variable {r : List Pl} {k : ByteArray} (v : Value)
theorem lay_at (he : Emp r) (hn : ¬ ∃ i, Fnd r k i) : (lookL r k).1 < r.length ∧ (at' r (lookL r k).1).st = 0 ∧ (lookL r k).2 = false := by
  obtain ⟨a1, _, a3⟩ := lookL_spec k he
  rcases a3 with ⟨_, b2, b3⟩ | ⟨b1, b2⟩
  · exact absurd ⟨_, a1, b2, b3⟩ hn
  · exact ⟨a1, b2, b1⟩
theorem lay_prb (he : Emp r) (hn : ¬ ∃ i, Fnd r k i) (hp : Prb r) : Prb (layP r k v) := by
  obtain ⟨a1, a0, _⟩ := lay_at he hn
  obtain ⟨_, a2, _⟩ := lookL_spec k he
  intro p hp1 hp2 q hq hlt
  rw [homeL_len (layP_len r k v)] at hlt
  rw [layP_len] at hp1 hq hlt
  unfold layP at hp2 hlt ⊢
  rw [at_set _ _ _ _ a1] at hp2 hlt ⊢
  by_cases h1 : (lookL r k).1 = q
  · rw [if_pos h1]; simp
  · rw [if_neg h1]
    by_cases h2 : (lookL r k).1 = p
    · rw [if_pos h2] at hlt
      subst h2
      exact (a2 q hq hlt).1
    · rw [if_neg h2] at hlt hp2
      exact hp p hp1 hp2 q hq hlt
theorem lay_unq (he : Emp r) (hn : ¬ ∃ i, Fnd r k i) (hu : Unq r) : Unq (layP r k v) := by
  obtain ⟨a1, a0, _⟩ := lay_at he hn
  intro p q hp hq h1 h2 hk
  rw [layP_len] at hp hq
  unfold layP at h1 h2 hk
  rw [at_set _ _ _ _ a1] at h1 h2 hk
  rw [at_set _ _ _ _ a1] at hk
  by_cases e1 : (lookL r k).1 = p
  · by_cases e2 : (lookL r k).1 = q
    · omega
    · rw [if_pos e1, if_neg e2] at hk
      rw [if_neg e2] at h2
      exact absurd ⟨q, hq, h2, hk.symm⟩ hn
  · by_cases e2 : (lookL r k).1 = q
    · rw [if_neg e1, if_pos e2] at hk
      rw [if_neg e1] at h1
      exact absurd ⟨p, hp, h1, hk⟩ hn
    · rw [if_neg e1, if_neg e2] at hk
      rw [if_neg e1] at h1
      rw [if_neg e2] at h2
      exact hu p q hp hq h1 h2 hk
theorem lay_ent (he : Emp r) (hn : ¬ ∃ i, Fnd r k i) (k' : ByteArray) (v' : Value) : Ent (layP r k v) k' v' ↔ (k' = k ∧ v' = v) ∨ Ent r k' v' := by
  obtain ⟨a1, a0, _⟩ := lay_at he hn
  constructor
  · rintro ⟨p, hp, e⟩
    rw [layP_len] at hp
    unfold layP at e
    rw [at_set _ _ _ _ a1] at e
    by_cases h : (lookL r k).1 = p
    · rw [if_pos h] at e
      simp only [Pl.mk.injEq, true_and] at e
      exact Or.inl ⟨e.1.symm, e.2.symm⟩
    · rw [if_neg h] at e
      exact Or.inr ⟨p, hp, e⟩
  · rintro (⟨rfl, rfl⟩ | ⟨p, hp, e⟩)
    · exact ⟨(lookL r k').1, by rw [layP_len]; exact a1, by unfold layP; rw [at_set _ _ _ _ a1, if_pos rfl]⟩
    · refine ⟨p, by rw [layP_len]; exact hp, ?_⟩
      unfold layP
      rw [at_set _ _ _ _ a1, if_neg]
      · exact e
      · rintro rfl; rw [e] at a0; cases a0
theorem lay_cnt (he : Emp r) (hn : ¬ ∃ i, Fnd r k i) : cnt (layP r k v) = cnt r + 1 := by
  obtain ⟨a1, a0, _⟩ := lay_at he hn
  have := cnt_set r _ ⟨1, k, v⟩ a1
  unfold layP
  rw [a0] at this
  simpa using this
theorem lay_st (he : Emp r) (hn : ¬ ∃ i, Fnd r k i) (hs : ∀ i, i < r.length → (at' r i).st ≤ 1) : ∀ i, i < (layP r k v).length → (at' (layP r k v) i).st ≤ 1 := by
  obtain ⟨a1, _, _⟩ := lay_at he hn
  intro i hi
  rw [layP_len] at hi
  unfold layP
  rw [at_set _ _ _ _ a1]
  by_cases h : (lookL r k).1 = i
  · rw [if_pos h]; exact Nat.le_refl _
  · rw [if_neg h]; exact hs i hi
end lay

/-- Amid mending: the place i is empty, k is looked at, j is another empty one. -/
structure Mid (r : List Pl) (i k j : Nat) : Prop where
  hi : i < r.length
  hk : k < r.length
  hj : j < r.length
  i0 : (at' r i).st = 0
  j0 : (at' r j).st = 0
  ij : j ≠ i
  ik : k ≠ i
  le : ds r.length i k ≤ ds r.length i j
  path : ∀ p, p < r.length → (at' r p).st = 1 → ∀ q, q < r.length → ds r.length (homeL r (at' r p).key) q < ds r.length (homeL r (at' r p).key) p → (at' r q).st = 0 → q = i ∧ ds r.length i k ≤ ds r.length i p
  st : ∀ p, p < r.length → (at' r p).st ≤ 1
  unq : Unq r

theorem Mid.done {r : List Pl} {i k j : Nat} (h : Mid r i k j) (hk0 : (at' r k).st = 0) : Prb r := by
  intro p hp h1 q hq hlt h0
  obtain ⟨rfl, h2⟩ := h.path p hp h1 q hq hlt h0
  have hpk : p ≠ k := by rintro rfl; rw [h1] at hk0; cases hk0
  have hh := homeL_lt (at' r p).key (show 0 < r.length by have := h.hi; omega)
  have h3 : ds r.length (homeL r (at' r p).key) k < ds r.length (homeL r (at' r p).key) p := by
    have e1 : ds r.length q k ≠ ds r.length q p := fun e => hpk (ds_inj h.hk hp hq e).symm
    have hk := h.hk
    generalize homeL r (at' r p).key = m at *
    clear h
    revert hlt h2 e1
    unfold ds
    split <;> split <;> split <;> split <;> split <;> omega
  exact h.ik (h.path p hp h1 k h.hk h3 hk0).1

theorem Mid.skip {r : List Pl} {i k j : Nat} (h : Mid r i k j) (hk1 : (at' r k).st ≠ 0) (hc : ds r.length (homeL r (at' r k).key) k < ds r.length i k) : Mid r i (nx r.length k) j := by
  have hkj : k ≠ j := by rintro rfl; exact hk1 h.j0
  have e1 : ds r.length i k ≠ ds r.length i j := fun e => hkj (ds_inj h.hk h.hj h.hi e)
  have hjl := ds_lt h.hi h.hj
  have hle := h.le
  have hk := h.hk
  have hi := h.hi
  have hj := h.hj
  have hnx : ds r.length i (nx r.length k) = ds r.length i k + 1 := by
    revert hle e1 hjl
    unfold ds nx
    split <;> split <;> split <;> split <;> omega
  refine ⟨h.hi, nx_lt h.hk, h.hj, h.i0, h.j0, h.ij, ?_, by omega, ?_, h.st, h.unq⟩
  · intro e
    rw [e, ds_self] at hnx
    omega
  · intro p hp h1 q hq hlt h0
    obtain ⟨rfl, h2⟩ := h.path p hp h1 q hq hlt h0
    refine ⟨rfl, ?_⟩
    rw [hnx]
    by_cases hpk : p = k
    · subst hpk
      exfalso
      have hh := homeL_lt (at' r p).key (show 0 < r.length by omega)
      generalize homeL r (at' r p).key = m at *
      revert hlt hc
      unfold ds
      split <;> split <;> split <;> omega
    · have e2 : ds r.length q k ≠ ds r.length q p := fun e => hpk (ds_inj h.hk hp hq e).symm
      omega

/-- A key goes up. -/
def up1 (z : Value) (r : List Pl) (i k : Nat) : List Pl := (r.set i (at' r k)).set k (pz z)
theorem up1_len (z : Value) (r : List Pl) (i k : Nat) : (up1 z r i k).length = r.length := by simp [up1]
theorem up1_at (z : Value) {r : List Pl} {i k : Nat} (hi : i < r.length) (hk : k < r.length) (p : Nat) : at' (up1 z r i k) p = if k = p then pz z else if i = p then at' r k else at' r p := by
  unfold up1
  rw [at_set _ _ _ _ (by simpa using hk), at_set _ _ _ _ hi]
theorem Mid.up {z : Value} {r : List Pl} {i k j : Nat} (h : Mid r i k j) (hk1 : (at' r k).st ≠ 0) (hc : ¬ ds r.length (homeL r (at' r k).key) k < ds r.length i k) : Mid (up1 z r i k) k (nx r.length k) j := by
  have hkj : k ≠ j := by rintro rfl; exact hk1 h.j0
  have hk := h.hk
  have hi := h.hi
  have hj := h.hj
  have hst : (at' r k).st = 1 := by have := h.st k hk; omega
  have hA := up1_at z hi hk
  have hL := up1_len z r i k
  have hik := h.ik
  have hij := h.ij
  refine ⟨by rw [hL]; exact hk, by rw [hL]; exact nx_lt hk, by rw [hL]; exact hj, by rw [hA, if_pos rfl]; rfl, ?_, fun e => hkj e.symm, ?_, ?_, ?_, ?_, ?_⟩
  · rw [hA, if_neg hkj, if_neg (fun e => hij e.symm)]; exact h.j0
  · have := hi
    unfold nx
    split <;> omega
  · rw [hL]
    revert hkj
    unfold ds nx
    split <;> split <;> split <;> omega
  · intro p hp h1 q hq hlt h0
    rw [homeL_len hL] at hlt
    rw [hL] at hp hq hlt ⊢
    rw [hA] at h1 hlt h0
    have hpk : k ≠ p := by rintro rfl; rw [if_pos rfl] at h1; cases h1
    rw [if_neg hpk] at h1 hlt
    have hq : k = q := by
      rcases Classical.em (k = q) with e | e
      · exact e
      · exfalso
        rw [if_neg e] at h0
        by_cases e2 : i = q
        · rw [if_pos e2] at h0; omega
        · rw [if_neg e2] at h0
          by_cases e3 : i = p
          · rw [if_pos e3] at hlt
            subst e3
            have hh := homeL_lt (at' r k).key (show 0 < r.length by omega)
            have h5 : ds r.length (homeL r (at' r k).key) q < ds r.length (homeL r (at' r k).key) k := by
              generalize homeL r (at' r k).key = m at *
              revert hlt hc
              unfold ds
              split <;> split <;> split <;> split <;> omega
            exact e2 (h.path k hk hst q hq h5 h0).1.symm
          · rw [if_neg e3] at hlt h1
            exact e2 (h.path p hp h1 q hq hlt h0).1.symm
    refine ⟨hq.symm, ?_⟩
    have e2 : ds r.length k p ≠ ds r.length k k := fun e => hpk (ds_inj hp hk hk e).symm
    rw [ds_self] at e2
    have : ds r.length k (nx r.length k) ≤ 1 := by
      unfold ds nx
      split <;> split <;> omega
    omega
  · intro p hp
    rw [hL] at hp
    rw [hA]
    split
    · exact Nat.zero_le _
    · split
      · exact h.st k hk
      · exact h.st p hp
  · intro p q hp hq h1 h2 hkey
    rw [hL] at hp hq
    rw [hA] at h1 h2 hkey
    rw [hA] at hkey
    have hpk : k ≠ p := by rintro rfl; rw [if_pos rfl] at h1; cases h1
    have hqk : k ≠ q := by rintro rfl; rw [if_pos rfl] at h2; cases h2
    rw [if_neg hpk] at h1 hkey
    rw [if_neg hqk] at h2 hkey
    by_cases e1 : i = p
    · by_cases e2 : i = q
      · omega
      · rw [if_pos e1, if_neg e2] at hkey
        rw [if_neg e2] at h2
        exact absurd (h.unq k q hk hq hst h2 hkey) hqk
    · by_cases e2 : i = q
      · rw [if_neg e1, if_pos e2] at hkey
        rw [if_neg e1] at h1
        exact absurd (h.unq p k hp hk h1 hst hkey).symm hpk
      · rw [if_neg e1, if_neg e2] at hkey
        rw [if_neg e1] at h1
        rw [if_neg e2] at h2
        exact h.unq p q hp hq h1 h2 hkey
theorem Mid.up_ent {z : Value} {r : List Pl} {i k j : Nat} (h : Mid r i k j) (k' : ByteArray) (v' : Value) : Ent (up1 z r i k) k' v' ↔ Ent r k' v' := by
  have hk := h.hk
  have hi := h.hi
  have hA := up1_at z hi hk
  have hL := up1_len z r i k
  have hik := h.ik
  have i0 := h.i0
  constructor
  · rintro ⟨p, hp, e⟩
    rw [hL] at hp
    rw [hA] at e
    split at e
    · simp [pz] at e
    · split at e
      · exact ⟨k, hk, e⟩
      · exact ⟨p, hp, e⟩
  · rintro ⟨p, hp, e⟩
    by_cases h1 : k = p
    · subst h1
      exact ⟨i, by rw [hL]; exact hi, by rw [hA, if_neg hik, if_pos rfl]; exact e⟩
    · refine ⟨p, by rw [hL]; exact hp, ?_⟩
      rw [hA, if_neg h1, if_neg]
      · exact e
      · rintro rfl; rw [e] at i0; cases i0
theorem Mid.up_cnt {z : Value} {r : List Pl} {i k j : Nat} (h : Mid r i k j) : cnt (up1 z r i k) = cnt r := by
  have hk := h.hk
  have hi := h.hi
  have i0 := h.i0
  have h1 := cnt_set r i (at' r k) hi
  have h2 := cnt_set (r.set i (at' r k)) k (pz z) (by simpa using hk)
  have h3 : at' (r.set i (at' r k)) k = at' r k := by rw [at_set _ _ _ _ hi]; split <;> rfl
  rw [h3] at h2
  rw [i0] at h1
  have h4 : (pz z).st = 0 := rfl
  rw [h4] at h2
  simp at h1 h2
  unfold up1
  omega

theorem mendF_spec (z : Value) (j : Nat) : ∀ (f : Nat) (r : List Pl) (i k : Nat), Mid r i k j → ds r.length k j < f →
    (mendF z f r i k).length = r.length ∧ Prb (mendF z f r i k) ∧ Unq (mendF z f r i k) ∧ (∀ p, p < r.length → (at' (mendF z f r i k) p).st ≤ 1) ∧ cnt (mendF z f r i k) = cnt r ∧ ∀ k' v', Ent (mendF z f r i k) k' v' ↔ Ent r k' v'
  | 0, r, i, k, _, hf => absurd hf (Nat.not_lt_zero _)
  | f + 1, r, i, k, h, hf => by
    unfold mendF
    by_cases h0 : (at' r k).st = 0
    · rw [if_pos h0]
      exact ⟨rfl, h.done h0, h.unq, h.st, rfl, fun _ _ => Iff.rfl⟩
    · rw [if_neg h0]
      have hkj : k ≠ j := by rintro rfl; exact h0 h.j0
      have h2 := ds_nx h.hk h.hj hkj
      by_cases hc : ds r.length (homeL r (at' r k).key) k < ds r.length i k
      · rw [if_pos hc]
        exact mendF_spec z j f r i _ (h.skip h0 hc) (by omega)
      · rw [if_neg hc]
        have hL := up1_len z r i k
        have := mendF_spec z j f (up1 z r i k) k (nx r.length k) (h.up h0 hc) (by rw [hL]; omega)
        rw [hL] at this
        obtain ⟨b1, b2, b3, b4, b5, b6⟩ := this
        exact ⟨b1, b2, b3, b4, b5.trans h.up_cnt, fun k' v' => (b6 k' v').trans (h.up_ent k' v')⟩

/-- Mending, behind what made the place empty. -/
theorem mend_mid {z : Value} {r : List Pl} {i j : Nat} (hi : i < r.length) (hj : j < r.length) (hi1 : (at' r i).st = 1) (hj0 : (at' r j).st = 0) (hp : Prb r) (hu : Unq r) (hs : ∀ p, p < r.length → (at' r p).st ≤ 1) :
    Mid (r.set i (pz z)) i (nx r.length i) j := by
  have hij : j ≠ i := by rintro rfl; rw [hi1] at hj0; cases hj0
  have hA : ∀ p, at' (r.set i (pz z)) p = if i = p then pz z else at' r p := fun p => at_set _ _ _ _ hi
  have hL : (r.set i (pz z)).length = r.length := by simp
  have hn1 : ds r.length i (nx r.length i) ≤ 1 := by
    unfold ds nx
    split <;> split <;> omega
  refine ⟨by rw [hL]; exact hi, by rw [hL]; exact nx_lt hi, by rw [hL]; exact hj, by rw [hA, if_pos rfl]; rfl, by rw [hA, if_neg (fun e => hij e.symm)]; exact hj0, hij, ?_, ?_, ?_, ?_, ?_⟩
  · unfold nx
    split <;> omega
  · rw [hL]
    have : ds r.length i j ≠ ds r.length i i := fun e => hij (ds_inj hj hi hi e)
    rw [ds_self] at this
    omega
  · intro p hp1 h1 q hq hlt h0
    rw [homeL_len hL] at hlt
    rw [hL] at hp1 hq hlt ⊢
    rw [hA] at h1 hlt h0
    have hpi : i ≠ p := by rintro rfl; rw [if_pos rfl] at h1; cases h1
    rw [if_neg hpi] at h1 hlt
    have : ds r.length i p ≠ ds r.length i i := fun e => hpi (ds_inj hp1 hi hi e).symm
    rw [ds_self] at this
    refine ⟨?_, by omega⟩
    rcases Classical.em (i = q) with e | e
    · exact e.symm
    · rw [if_neg e] at h0
      exact absurd h0 (hp p hp1 h1 q hq hlt)
  · intro p hp1
    rw [hL] at hp1
    rw [hA]
    split
    · exact Nat.zero_le _
    · exact hs p hp1
  · intro p q hp1 hq h1 h2 hkey
    rw [hL] at hp1 hq
    rw [hA] at h1 h2 hkey
    rw [hA] at hkey
    have hpi : i ≠ p := by rintro rfl; rw [if_pos rfl] at h1; cases h1
    have hqi : i ≠ q := by rintro rfl; rw [if_pos rfl] at h2; cases h2
    rw [if_neg hpi] at h1 hkey
    rw [if_neg hqi] at h2 hkey
    exact hu p q hp1 hq h1 h2 hkey

theorem mend_spec (z : Value) {r : List Pl} {i j : Nat} (hi : i < r.length) (hj : j < r.length) (hi1 : (at' r i).st = 1) (hj0 : (at' r j).st = 0) (hp : Prb r) (hu : Unq r) (hs : ∀ p, p < r.length → (at' r p).st ≤ 1) :
    (mendL z r i).length = r.length ∧ Prb (mendL z r i) ∧ Unq (mendL z r i) ∧ (∀ p, p < r.length → (at' (mendL z r i) p).st ≤ 1) ∧ cnt (mendL z r i) + 1 = cnt r ∧ ∀ k' v', Ent (mendL z r i) k' v' ↔ (k' ≠ (at' r i).key ∧ Ent r k' v') := by
  have hm := mend_mid (z := z) hi hj hi1 hj0 hp hu hs
  have hL : (r.set i (pz z)).length = r.length := by simp
  have hA : ∀ p, at' (r.set i (pz z)) p = if i = p then pz z else at' r p := fun p => at_set _ _ _ _ hi
  have hS := mendF_spec z j r.length _ _ _ hm (by rw [hL]; exact ds_lt (nx_lt hi) hj)
  rw [hL] at hS
  obtain ⟨b1, b2, b3, b4, b5, b6⟩ := hS
  refine ⟨b1, b2, b3, b4, ?_, ?_⟩
  · have := cnt_set r i (pz z) hi
    rw [hi1] at this
    simp [pz] at this
    unfold mendL
    rw [b5]
    exact this
  · intro k' v'
    rw [show Ent (mendL z r i) k' v' ↔ _ from b6 k' v']
    constructor
    · rintro ⟨p, hp1, e⟩
      rw [hL] at hp1
      rw [hA] at e
      split at e
      · simp [pz] at e
      · rename_i hne
        refine ⟨fun ek => hne (hu i p hi hp1 hi1 (by rw [e]) (by rw [e, ek])), p, hp1, e⟩
    · rintro ⟨hne, p, hp1, e⟩
      refine ⟨p, by rw [hL]; exact hp1, ?_⟩
      rw [hA, if_neg]
      · exact e
      · rintro rfl; rw [e] at hne; exact hne rfl
end Go.Proofs.YtcjadgnefojjgabDoor
