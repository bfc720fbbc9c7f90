/- flow: what its calls leave of the numbers. -/
import Derived.Test.YtlgbciibhmcokaaXKnown
namespace Go.Proofs.Ytlgbciibhmcokaa
open Go.RowKit

theorem lenAt_box {s : Ps} {box : Nat} (h : Wf s box) (j : Int) : lenAt j s.b ≤ box := by
  unfold lenAt
  split
  · exact h.b _ (by omega)
  · omega
theorem put_same {s : Ps} {i : Int} {x : It} (h : putE s i x ≠ 0) : putS s i x = s := by unfold putS; rw [if_neg h]
theorem put_in {s : Ps} {i : Int} {x : It} (h : putE s i x = 0) : 0 ≤ i ∧ i < (s.q.length : Int) := by
  unfold putE at h
  split at h
  · cases h
  · rename_i h1
    exact Classical.not_not.1 h1
theorem put_len {s : Ps} {i : Int} {x : It} (h : putE s i x = 0) : lenAt i (putS s i x).q = lenAt i s.q + 1 := by
  have hi := put_in h
  unfold putS
  rw [if_pos h]
  unfold lenAt
  simp only [List.length_set]
  rw [if_pos hi, if_pos hi, getD_set_same (by omega), List.length_append]
  rfl
theorem pas_err {s : Ps} {box : Nat} {i : Int} (h : (firR s i).2.2 ≠ 0) : pasR s box i = (0, (firR s i).2.2) ∧ pasS s box i = s := by
  unfold pasR pasS
  rw [if_pos h, if_pos h]
  exact ⟨rfl, rfl⟩
theorem fir_ok {s : Ps} {i : Int} (h : (firR s i).2.2 = 0) : ∃ n : Nat, i = (n : Int) ∧ n < s.q.length ∧ ∃ x L, s.q.getD n [] = x :: L ∧ firR s i = (tow s n x, x, 0) := by
  by_cases hi : 0 ≤ i ∧ i < (s.q.length : Int)
  · obtain ⟨n, rfl⟩ : ∃ n : Nat, i = (n : Int) := ⟨i.toNat, by omega⟩
    have hn : n < s.q.length := by omega
    cases hq : s.q.getD n [] with
    | nil => rw [firR_nil hn hq] at h; cases h
    | cons x L => exact ⟨n, rfl, hn, x, L, hq, firR_cons hn hq⟩
  · rw [firR_out hi] at h; cases h
theorem tow_lt {s : Ps} {box : Nat} (h : Wf s box) {n : Nat} (hn : n < s.q.length) (x : It) : tow s n x < s.b.length := by
  unfold tow
  split
  · exact (h.q n hn).2.1
  · exact Nat.mod_lt _ h.nb.1
theorem pas_full {s : Ps} {box : Nat} {i : Int} (hw : Wf s box) (h : (firR s i).2.2 = 0) (hf : box ≤ lenAt ((firR s i).1 : Int) s.b) : pasR s box i = (0, 45) ∧ pasS s box i = s := by
  obtain ⟨n, rfl, hn, x, L, hq, hr⟩ := fir_ok h
  rw [hr] at hf
  simp only at hf
  rw [lenAt_nat (tow_lt hw hn x)] at hf
  unfold pasR pasS
  rw [hr]
  simp only
  rw [if_neg (by simp), if_pos hf, if_neg (by simp), if_pos hf]
  exact ⟨rfl, rfl⟩
theorem pasT_b (s : Ps) (n : Nat) (x : It) (j : Nat) : (pasT s n x j).b = s.b.set j (s.b.getD j [] ++ [⟨(n : Int), x⟩]) := by
  unfold pasT
  split <;> rfl
theorem pas_ok {s : Ps} {box : Nat} {i : Int} (hw : Wf s box) (h : (firR s i).2.2 = 0) (hf : ¬ box ≤ lenAt ((firR s i).1 : Int) s.b) : pasR s box i = ((firR s i).1, 0) ∧ lenAt ((firR s i).1 : Int) (pasS s box i).b = lenAt ((firR s i).1 : Int) s.b + 1 := by
  obtain ⟨n, rfl, hn, x, L, hq, hr⟩ := fir_ok h
  have hl := tow_lt hw hn x
  rw [hr] at hf ⊢
  simp only at hf ⊢
  rw [lenAt_nat hl] at hf ⊢
  unfold pasR pasS
  rw [hr]
  simp only
  rw [if_neg (by simp), if_neg hf, if_neg (by simp), if_neg hf]
  refine ⟨rfl, ?_⟩
  have e : (pasT s ((n : Int)).toNat x (tow s n x)).b = s.b.set (tow s n x) (s.b.getD (tow s n x) [] ++ [⟨(n : Int), x⟩]) := by rw [Int.toNat_natCast]; exact pasT_b _ _ _ _
  rw [e, lenAt_nat (by rw [List.length_set]; exact hl), getD_set_same hl, List.length_append]
  rfl
theorem tak_some {s : Ps} {i : Int} (h : 0 < lenAt i s.b) : (takR s i).2 = 0 ∧ lenAt i (takS s i).b = lenAt i s.b - 1 := by
  unfold lenAt at h
  split at h
  · rename_i hi
    unfold takR takS
    rw [if_neg (fun h' => h' hi), if_neg (fun h' => h' hi)]
    cases hq : s.b.getD i.toNat [] with
    | nil => rw [hq] at h; simp at h
    | cons m L =>
      refine ⟨rfl, ?_⟩
      unfold lenAt
      simp only [List.length_set]
      rw [if_pos hi, if_pos hi, getD_set_same (by omega), hq]
      simp
  · omega
theorem tak_none {s : Ps} {i : Int} (h : ¬ 0 < lenAt i s.b) : (takR s i).2 ≠ 0 ∧ takS s i = s := by
  unfold takR takS
  unfold lenAt at h
  by_cases hi : 0 ≤ i ∧ i < (s.b.length : Int)
  · rw [if_pos hi] at h
    rw [if_neg (fun h' => h' hi), if_neg (fun h' => h' hi)]
    cases hq : s.b.getD i.toNat [] with
    | nil =>
      refine ⟨by simp, ?_⟩
      have : s.b.set i.toNat ([] : List Ms).tail = s.b := by
        conv => rhs; rw [← set_getD_self s.b i.toNat []]
        rw [hq]; rfl
      rw [this]
    | cons m L => rw [hq] at h; simp at h
  · rw [if_pos hi, if_pos hi]
    exact ⟨by simp, rfl⟩
end Go.Proofs.Ytlgbciibhmcokaa
