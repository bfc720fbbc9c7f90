/- The document's insertion sorts: entries of a table, by key, are one list alone. -/
import Derived.Test.YtobigmcklecbnaaRAll
import Derived.Test.YtobigmcklecbnaaTAlike
namespace Go.Proofs.Ytobigmcklecbnaa
open Go.RowKit

def leK (a b : En) : Prop := 0 ≤ cf b a
theorem less_cb : ∀ a b : List UInt8, Op.bytesLess a b = decide (Lib.compareBytes a b < 0)
  | [], [] => rfl
  | [], _ :: _ => rfl
  | _ :: _, [] => rfl
  | x :: a, y :: b => by
    unfold Op.bytesLess Lib.compareBytes
    rcases u8_cases x y with h | h | h
    · simp [h]
    · subst h
      simp [UInt8.lt_irrefl, less_cb a b]
    · have h2 : ¬ x < y := fun h3 => by have h4 : y.toNat < x.toNat := h; have h5 : x.toNat < y.toNat := h3; omega
      have h3 : x ≠ y := fun e => by subst e; exact UInt8.lt_irrefl x h
      simp [h, h2, h3]
theorem gt_cf (a b : En) : gtK a.1 b.1 = decide (0 < cf a b) := by
  unfold gtK cf
  rw [ByteArray.toList_eq, ByteArray.toList_eq, less_cb]
  rcases cb_vals a.1.data.toList b.1.data.toList with v | v | v
  · rw [v]; rfl
  · have := cb_zero _ _ v
    rw [v, this]; simp
  · rw [v]
    have : a.1.data.toList ≠ b.1.data.toList := fun e => by rw [e, cb_self] at v; cases v
    simp
    exact fun e => this (by rw [e])
theorem cf_flip (a b : En) : cf b a = - cf a b := cb_flip _ _
theorem leK_of_gt {a b : En} (h : gtK a.1 b.1 = true) : leK b a := by
  rw [gt_cf] at h
  have := of_decide_eq_true h
  unfold leK
  omega
theorem leK_of_ngt {a b : En} (h : gtK a.1 b.1 = false) : leK a b := by
  rw [gt_cf] at h
  have := of_decide_eq_false h
  have := cf_flip a b
  unfold leK
  omega
theorem leK_trans {a b c : En} (h1 : leK a b) (h2 : leK b c) : leK a c := by
  unfold leK at *
  by_cases h : 0 ≤ cf c a
  · exact h
  · exfalso
    have h3 : ltOf cf c a = true := decide_eq_true (by omega)
    have n1 : ltOf cf c b = false := decide_eq_false (by omega)
    have n2 : ltOf cf b a = false := decide_eq_false (by omega)
    have := swo_cf.ntrans _ _ _ n1 n2
    rw [h3] at this
    cases this
theorem posF_gt (L : List En) (k : ByteArray) : ∀ n i, posF L k n ≤ i → i < n → gtK (L.getD i ez).1 k = true
  | 0, i, _, h => by omega
  | n + 1, i, h1, h2 => by
    unfold posF at h1
    by_cases hg : gtK (L.getD n ez).1 k = true
    · rw [if_pos hg] at h1
      by_cases e : i = n
      · rw [e]; exact hg
      · exact posF_gt L k n i h1 (by omega)
    · rw [if_neg hg] at h1
      omega
theorem posF_last (L : List En) (k : ByteArray) : ∀ n p, posF L k n = p + 1 → gtK (L.getD p ez).1 k = false
  | 0, p, h => by cases h
  | n + 1, p, h => by
    unfold posF at h
    by_cases hg : gtK (L.getD n ez).1 k = true
    · rw [if_pos hg] at h
      exact posF_last L k n p h
    · rw [if_neg hg] at h
      have e : n = p := by omega
      rw [← e]
      simpa using hg
theorem insL_sorted {L : List En} (h : L.Pairwise leK) (e : En) : (insL L e).Pairwise leK := by
  unfold insL
  have hle := posF_le L e.1 L.length
  have hg := posF_gt L e.1 L.length
  have hl := posF_last L e.1 L.length
  generalize posF L e.1 L.length = p at *
  have hget : ∀ i (hi : i < L.length), L.getD i ez = L[i] := fun i hi => by simp [List.getD, List.getElem?_eq_getElem hi]
  have hpw := h
  rw [List.pairwise_iff_getElem] at hpw
  have hbe : ∀ a ∈ L.take p, leK a e := by
    intro a ha
    obtain ⟨i, hi, rfl⟩ := List.mem_iff_getElem.1 ha
    rw [List.length_take] at hi
    rw [List.getElem_take]
    cases p with
    | zero => omega
    | succ q =>
      have h1 := hl q rfl
      rw [hget q (by omega)] at h1
      have h2 := leK_of_ngt h1
      by_cases e1 : i = q
      · subst e1; exact h2
      · exact leK_trans (hpw i q (by omega) (by omega) (by omega)) h2
  have haf : ∀ b ∈ L.drop p, leK e b := by
    intro b hb
    obtain ⟨i, hi, rfl⟩ := List.mem_iff_getElem.1 hb
    rw [List.length_drop] at hi
    rw [List.getElem_drop]
    have h1 := hg (p + i) (by omega) (by omega)
    rw [hget (p + i) (by omega)] at h1
    exact leK_of_gt h1
  rw [List.pairwise_append]
  refine ⟨h.sublist (List.take_sublist _ _), ?_, ?_⟩
  · rw [List.pairwise_cons]
    exact ⟨haf, h.sublist (List.drop_sublist _ _)⟩
  · intro a ha b hb
    rcases List.mem_cons.1 hb with rfl | hb
    · exact hbe a ha
    · exact leK_trans (hbe a ha) (haf b hb)
theorem insL_perm (L : List En) (e : En) : (insL L e).Perm (e :: L) := by
  unfold insL
  refine List.perm_middle.trans ?_
  rw [List.take_append_drop]
theorem sortL_spec : ∀ (l a : List En), a.Pairwise leK → (l.foldl insL a).Pairwise leK ∧ (l.foldl insL a).Perm (a ++ l)
  | [], a, h => ⟨h, by simp⟩
  | x :: l, a, h => by
    obtain ⟨h1, h2⟩ := sortL_spec l (insL a x) (insL_sorted h x)
    refine ⟨h1, h2.trans ?_⟩
    refine ((insL_perm a x).append_right l).trans ?_
    exact List.perm_middle.symm
/-- The entries of a table, by key. -/
theorem sorted_one {w : World} {B gr : Nat} {ge : Option Nat} {T : Tb} (h : TbAt w B gr ge T) {L : List En} (hp : L.Perm (entT T)) (hs : L.Pairwise (fun a b => 0 ≤ cf b a)) : L = sortL (entT T) := by
  obtain ⟨h1, h2⟩ := sortL_spec (entT T) [] List.Pairwise.nil
  have h2 : (sortL (entT T)).Perm (entT T) := by simpa [sortL] using h2
  refine List.Perm.eq_of_pairwise (le := leK) ?_ hs h1 (hp.trans h2.symm)
  intro a b ha hb l1 l2
  have ea := entT_mem h (hp.subset ha)
  have eb := entT_mem h (h2.subset hb)
  have hk : a.1 = b.1 := by
    have h3 : cf a b = 0 := by
      have := cf_flip a b
      unfold leK at l1 l2
      omega
    exact ByteArray.ext (Array.toList_inj.1 (cb_zero _ _ h3))
  have g1 := get_has (.int .i64 0) h.inv ea.1
  have g2 := get_has (.int .i64 0) h.inv eb.1
  rw [hk, g2] at g1
  have hv : a.2 = b.2 := by
    have := congrArg (fun q : Value × Bool => q.1) g1
    simp at this
    exact this.symm
  exact Prod.ext hk hv
theorem enP_entT (T : Tb) : enP (takL T.row ++ takL T.elder) = entT T := by
  unfold enP entT ents takL
  rw [List.map_append]
end Go.Proofs.Ytobigmcklecbnaa
