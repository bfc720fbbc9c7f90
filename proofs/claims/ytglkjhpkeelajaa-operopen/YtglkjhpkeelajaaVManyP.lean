/- OperMany: the cells that are written: numbers and lists alone. -/
import Derived.Test.YtglkjhpkeelajaaVHas
namespace Go.Proofs.Ytglkjhpkeelajaa.V
open Go.RowKit
open M (Cl cmpC vC)

theorem co7919 : ∀ n : Nat, n < 1501 → 1 ≤ n → Nat.gcd 7919 n = 1 := by decide +kernel
/-- Each number below n comes once. -/
theorem once7919 {n t i j : Nat} (hn : n < 1501) (h1 : 1 ≤ n) (hij : i < j) (hj : j < n) : (i * 7919 + t) % n ≠ (j * 7919 + t) % n := by
  intro h
  have hd : n ∣ (j * 7919 + t) - (i * 7919 + t) := Nat.dvd_of_mod_eq_zero (Nat.sub_mod_eq_zero_of_mod_eq h.symm)
  have he : (j * 7919 + t) - (i * 7919 + t) = (j - i) * 7919 := by rw [Nat.sub_mul]; omega
  rw [he] at hd
  have hc : Nat.Coprime n 7919 := Nat.Coprime.symm (co7919 n hn h1)
  have h2 := Nat.le_of_dvd (by omega) (Nat.Coprime.dvd_of_dvd_mul_right hc hd)
  omega
/-- The k-th cell. -/
def cellM (q k : Nat) : Cl := ⟨((k % 2 : Nat) : Int), str8 [97 + k / 2 % q], ((k / 2 / q * 10 : Nat) : Int)⟩
theorem cellM_inj {q k l : Nat} (hq : 1 ≤ q) (hq2 : q ≤ 20) (h : cellM q k = cellM q l) : k = l := by
  unfold cellM at h
  simp only [M.Cl.mk.injEq] at h
  obtain ⟨h1, h2, h3⟩ := h
  have h1 : k % 2 = l % 2 := by omega
  have hk : k / 2 % q < q := Nat.mod_lt _ hq
  have hl : l / 2 % q < q := Nat.mod_lt _ hq
  have h2 : k / 2 % q = l / 2 % q := by
    have := congrArg nums8 h2
    rw [M.nums8_str8 (by intro x hx; simp at hx; omega), M.nums8_str8 (by intro x hx; simp at hx; omega)] at this
    simp at this
    omega
  have h3 : k / 2 / q = l / 2 / q := by omega
  have e1 := Nat.div_add_mod (k / 2) q
  have e2 := Nat.div_add_mod (l / 2) q
  rw [h2, h3] at e1
  omega
def vsM : List Vw := [⟨10, 10, 0⟩, ⟨20, 10, 5⟩]
theorem exM : rightVs vsM = true ∧ leastL [noM] = noM := by decide
theorem cellM_chk {q k : Nat} (hk : k < 1501) : chkK vsM noM (cellM q k) = 0 := by
  have h2 : k % 2 = 0 ∨ k % 2 = 1 := by omega
  have hd : k / 2 / q ≤ 1501 := Nat.le_trans (Nat.div_le_self _ _) (by omega)
  have hkey : keyB (cellM q k).k = true := by unfold keyB cellM; exact decide_eq_true (by rw [str8_size]; simp)
  have hv : (cellM q k).v = ((k % 2 : Nat) : Int) := rfl
  have hs : (cellM q k).s = ((k / 2 / q * 10 : Nat) : Int) := rfl
  unfold chkK
  rw [if_neg (by rw [hv]; show ¬ (_ ∨ (2 : Int) ≤ _); omega), hkey, if_pos rfl, if_neg (by rw [hs]; omega)]
  have hsz : (vsM.getD (cellM q k).v.toNat vw0).d = 10 ∧ (vsM.getD (cellM q k).v.toNat vw0).s + (vsM.getD (cellM q k).v.toNat vw0).l ≤ 25 ∧ 0 ≤ (vsM.getD (cellM q k).v.toNat vw0).s + (vsM.getD (cellM q k).v.toNat vw0).l := by
    rw [hv]
    rcases h2 with h2 | h2 <;> rw [h2] <;> decide
  rw [if_neg (by rw [hsz.1, hs]; rw [show ((k / 2 / q * 10 : Nat) : Int) = ((k / 2 / q : Nat) : Int) * 10 from by omega]; simp), if_neg]
  have : shK vsM noM (cellM q k) = false := by
    unfold shK
    refine decide_eq_false ?_
    rw [hs]
    have : noM < -1000000 := by decide
    omega
  rw [this]
  decide
/-- Is a cell's window closed? -/
theorem cellM_sh {q k : Nat} (m : Int) : shK vsM m (cellM q k) = decide (endM (cellM q k) ≤ m) := by
  have h2 : k % 2 = 0 ∨ k % 2 = 1 := by omega
  have hv : (cellM q k).v = ((k % 2 : Nat) : Int) := rfl
  unfold shK endM
  rw [hv]
  rcases h2 with h2 | h2
  · rw [h2]
    exact decide_eq_decide.2 (by first | (simp [vsM]; done) | (simp [vsM]; omega))
  · rw [h2]
    exact decide_eq_decide.2 (by first | (simp [vsM]; done) | (simp [vsM]; omega))
/-- What is live behind i rounds. -/
structure Mi (q n t i : Nat) (L : List Cl) : Prop where
  ri : Ri L
  len : L.length = i
  mem : ∀ c ∈ L, ∃ j, j < i ∧ c = cellM q ((j * 7919 + t) % n)
theorem Mi.start (q n t : Nat) : Mi q n t 0 [] := ⟨List.Pairwise.nil, rfl, by simp⟩
theorem Mi.step {q n t i : Nat} {L : List Cl} (h : Mi q n t i L) (hn : n < 1501) (hi : i < n) (hq : 1 ≤ q) (hq2 : q ≤ 20) : wroteL vsM noM [cellM q ((i * 7919 + t) % n), cellM q ((i * 7919 + t) % n)] L = insAll [cellM q ((i * 7919 + t) % n), cellM q ((i * 7919 + t) % n)] L ∧ chkAll vsM noM [cellM q ((i * 7919 + t) % n), cellM q ((i * 7919 + t) % n)] = 0 ∧ Mi q n t (i + 1) (insAll [cellM q ((i * 7919 + t) % n), cellM q ((i * 7919 + t) % n)] L) := by
  have hk : (i * 7919 + t) % n < n := Nat.mod_lt _ (by omega)
  have hz : chkAll vsM noM [cellM q ((i * 7919 + t) % n), cellM q ((i * 7919 + t) % n)] = 0 := by
    rw [chkAll_zero]
    intro c hc
    simp at hc
    subst hc
    exact cellM_chk (by omega)
  have hnew : ¬ cellM q ((i * 7919 + t) % n) ∈ L := fun hm => by
    obtain ⟨j, hj, e⟩ := h.mem _ hm
    exact once7919 hn (by omega) hj hi (cellM_inj hq hq2 e).symm
  refine ⟨by unfold wroteL; rw [if_pos hz], hz, ?_⟩
  have hr := ri_ins (c := cellM q ((i * 7919 + t) % n)) h.ri
  have hl := ins_len (c := cellM q ((i * 7919 + t) % n)) h.ri
  rw [if_neg hnew] at hl
  show Mi q n t (i + 1) (ins (cellM q ((i * 7919 + t) % n)) (ins (cellM q ((i * 7919 + t) % n)) L))
  refine ⟨ri_ins hr, ?_, fun c hc => ?_⟩
  · rw [ins_len hr, if_pos (mem_ins.2 (Or.inl rfl)), hl, h.len]
  · rw [mem_ins, mem_ins] at hc
    rcases hc with rfl | rfl | hc
    · exact ⟨i, by omega, rfl⟩
    · exact ⟨i, by omega, rfl⟩
    · obtain ⟨j, hj, e⟩ := h.mem _ hc
      exact ⟨j, by omega, e⟩
/-- What the mark leaves and lets go. -/
theorem Mi.parts {q n t : Nat} {L : List Cl} (h : Mi q n t n L) (hn : n < 1501) (m : Int) : (goneL vsM m L).length + (leftL vsM m L).length = n ∧ (∀ c ∈ goneL vsM m L, endM c ≤ m) ∧ (∀ c ∈ leftL vsM m L, ¬ endM c ≤ m) ∧ (∀ c ∈ L, 0 ≤ c.s ∧ c.s ≤ 1000000) := by
  have hsh : ∀ c ∈ L, shK vsM m c = decide (endM c ≤ m) := fun c hc => by
    obtain ⟨j, _, rfl⟩ := h.mem c hc
    exact cellM_sh m
  refine ⟨?_, fun c hc => ?_, fun c hc => ?_, fun c hc => ?_⟩
  · have h3 : ∀ (p : Cl → Bool) (L : List Cl), (L.filter p).length + (L.filter (fun c => !p c)).length = L.length := fun p L => by
      induction L with
      | nil => rfl
      | cons a L ih => rcases h : p a with _ | _ <;> simp [h] <;> omega
    have := h3 (shK vsM m) L
    have := h.len
    unfold goneL leftL
    omega
  · have hm := List.mem_filter.1 hc
    have := hsh c hm.1
    rw [hm.2] at this
    exact of_decide_eq_true this.symm
  · have hm := List.mem_filter.1 hc
    have := hsh c hm.1
    simp only [Bool.not_eq_true'] at hm
    rw [hm.2] at this
    exact of_decide_eq_false this.symm
  · obtain ⟨j, hj, rfl⟩ := h.mem c hc
    have hk : (j * 7919 + t) % n < n := Nat.mod_lt _ (by omega)
    generalize (j * 7919 + t) % n = k at *
    have hd : k / 2 / q ≤ k := Nat.le_trans (Nat.div_le_self _ _) (Nat.div_le_self _ _)
    have hs : (cellM q k).s = ((k / 2 / q * 10 : Nat) : Int) := rfl
    rw [hs]
    omega
end Go.Proofs.Ytglkjhpkeelajaa.V
