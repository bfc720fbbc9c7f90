/- Arguments that came in, as bytes. -/
import Derived.Test.YtmadlmbpgkifoabMem
import Derived.ProofKit
import Derived.OpenShut
namespace Go.Proofs.Ytmadlmbpgkifoab
open Go.ChangeShapes Go.WideShapes Go.ChangeAt Go.RowKit

/-- A slice of bytes that came in: its bytes, each below 256. -/
theorem bs_of_ints {W : World} {a : Addr} {len cap : Nat} {zs : List Int} (hl : len ≤ zs.length) (hcell : ∀ i, i < zs.length → W.cell? (a.add i) = some (.int .u8 (zs.getD i 0))) (hwz : ∀ n ∈ zs, (Lit.int .u8 n).wf = true) :
    ∃ xs : List Nat, xs.length = len ∧ (∀ j, xs.getD j 0 < 256) ∧ Bs W (.slice (some a) len cap) xs := by
  have hb : ∀ n ∈ zs, 0 ≤ n ∧ n ≤ 255 := fun n hn => bounds_u8 (hwz n hn)
  have hlen : ((zs.take len).map Int.toNat).length = len := by simp; omega
  refine ⟨(zs.take len).map Int.toNat, hlen, fun j => ?_, Or.inr ⟨a, cap, by rw [hlen], fun j u hu => ?_⟩⟩
  · rcases Nat.lt_or_ge j ((zs.take len).map Int.toNat).length with h | h
    · have hm : ((zs.take len).map Int.toNat).getD j 0 ∈ (zs.take len).map Int.toNat := by
        simp only [List.getD, List.getElem?_eq_getElem h, Option.getD_some]
        exact List.getElem_mem h
      obtain ⟨n, hn, e⟩ := List.mem_map.1 hm
      have := hb n (List.mem_of_mem_take hn)
      omega
    · rw [List.getD, List.getElem?_eq_none h]
      decide
  · have hj : j < len := by
      rcases Nat.lt_or_ge j len with h | h
      · exact h
      · rw [List.getElem?_eq_none (show (by8 ((zs.take len).map Int.toNat)).length ≤ j by rw [by8_length, hlen]; exact h)] at hu
        cases hu
    rw [hcell j (by omega)]
    rw [by8_get _ j (by omega)] at hu
    rw [← hu]
    have hz : zs.getD j 0 = zs[j]'(by omega) := by simp [List.getD, List.getElem?_eq_getElem (show j < zs.length by omega)]
    have h2 : ((zs.take len).map Int.toNat).getD j 0 = (zs[j]'(by omega)).toNat := by
      simp [List.getD, hj, List.getElem?_eq_getElem (show j < zs.length by omega)]
    rw [hz, h2]
    have := hb (zs[j]'(by omega)) (List.getElem_mem _)
    congr 2
    omega

end Go.Proofs.Ytmadlmbpgkifoab
