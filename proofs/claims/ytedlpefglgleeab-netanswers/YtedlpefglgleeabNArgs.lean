/- Arguments that came in: bytes, slices of bytes, steps of a net. -/
import Derived.Test.YtedlpefglgleeabNLend
import Derived.ProofKit
import Derived.OpenShut
import Derived.SizedLaws
import Derived.Deep.Slices
import Derived.ChangeSlices
import Derived.ChangeArms
namespace Go.Proofs.Ytedlpefglgleeab
open Go.ChangeShapes Go.WideShapes Go.ChangeAt Go.RowKit

theorem Try.cInt : Try.prog.cellsOf 3 = 1 := by kernel_rfl
theorem Try.cU8 : Try.prog.cellsOf 5 = 1 := by kernel_rfl
theorem Try.cBs : Try.prog.cellsOf 22 = 1 := by kernel_rfl
theorem Try.bU8 : Try.prog.bytesOf 5 = 1 := by kernel_rfl
theorem addr_plain {W : World} {a : Addr} {v : Value} (h : W.cell? (a.add 0) = some v) : ∃ b off, a = ⟨b, off, none⟩ := by
  obtain ⟨b, off, spot⟩ := a
  have hspot : spot = none := by simpa [Addr.add] using World.cell?_spot h
  exact ⟨b, off, by rw [hspot]⟩
/-- A slice of bytes that came in: its bytes, each below 256. -/
theorem bs_of_ints {W : World} {a : Addr} {len cap : Nat} {zs : List Int} (hl : len ≤ zs.length) (hcell : ∀ i, i < zs.length → W.cell? (a.add i) = some (.int .u8 (zs.getD i 0))) (hwz : ∀ n ∈ zs, (Lit.int .u8 n).wf = true) :
    ∃ xs : List Nat, xs.length = len ∧ (∀ j, xs.getD j 0 < 256) ∧ Bs W (.slice (some a) len cap) xs := by
  have hb : ∀ n ∈ zs, 0 ≤ n ∧ n ≤ 255 := fun n hn => bounds_u8 (hwz n hn)
  have hlen : ((zs.take len).map Int.toNat).length = len := by simp; omega
  refine ⟨(zs.take len).map Int.toNat, hlen, fun j => ?_, Or.inr ⟨a, cap, by rw [hlen], fun j u hu => ?_⟩⟩
  · rcases Nat.lt_or_ge j ((zs.take len).map Int.toNat).length with h | h
    · have hm : ((zs.take len).map Int.toNat).getD j 0 ∈ (zs.take len).map Int.toNat := by
        simp only [List.getD, List.getElem?_eq_getElem h, Option.getD_some]
        exact List.getElem_mem h
      obtain ⟨n, hn, e⟩ := List.mem_map.1 hm
      have := hb n (List.mem_of_mem_take hn)
      omega
    · rw [List.getD, List.getElem?_eq_none h]
      decide
  · have hj : j < len := by
      rcases Nat.lt_or_ge j len with h | h
      · exact h
      · rw [List.getElem?_eq_none (show (by8 ((zs.take len).map Int.toNat)).length ≤ j by rw [by8_length, hlen]; exact h)] at hu
        cases hu
    rw [hcell j (by omega)]
    rw [by8_get _ j (by omega)] at hu
    rw [← hu]
    have hz : zs.getD j 0 = zs[j]'(by omega) := by simp [List.getD, List.getElem?_eq_getElem (show j < zs.length by omega)]
    have h2 : ((zs.take len).map Int.toNat).getD j 0 = (zs[j]'(by omega)).toNat := by
      simp [List.getD, hj, List.getElem?_eq_getElem (show j < zs.length by omega)]
    rw [hz, h2]
    have := hb (zs[j]'(by omega)) (List.getElem_mem _)
    congr 2
    omega
/-- Bytes that came in: no more of them than a machine may hold. -/
def BsC (w : World) (v : Value) (xs : List Nat) : Prop := ∃ ao cap, v = .slice ao xs.length cap ∧ xs.length ≤ cap ∧ xs.length ≤ 140737488355328 ∧ Bs w v xs ∧ ∀ j, xs.getD j 0 < 256
theorem BsC.fr {w w' : World} {S : Nat → Prop} {v : Value} {xs : List Nat} (h : BsC w v xs) (hf : Fr w w' S) (hS : ∀ k, S k → w.heap.size ≤ k) : BsC w' v xs := by
  obtain ⟨ao, cap, e, h1, h2, h3, h4⟩ := h
  refine ⟨ao, cap, e, h1, h2, h3.keep fun a j u ha hu => ?_, h4⟩
  have hlt : a < w.heap.size := h3.lt ha (by intro e; subst e; simp [by8] at hu)
  exact hf.block a hlt (fun hs => by have := hS a hs; omega)
theorem weightsAll_mem {H : Type} {P : Program} {e : TypeId} : ∀ {ds : List (DataW H)} {d : DataW H}, d ∈ ds → ∀ n ∈ d.weights P e, n ∈ DataW.weightsAll P e ds
  | d0 :: ds, d, hd, n, hn => by
    simp only [DataW.weightsAll, List.mem_append]
    rcases List.mem_cons.1 hd with rfl | hd
    · exact Or.inl hn
    · exact Or.inr (weightsAll_mem hd n hn)
theorem bsc_of_trod {H : Type} {enc : TypeId × Value → H} {W : World} {base : Nat} {spare : Nat → Bool} {held : Bool} {fuel : Nat} {v : Value} {x : DataW H × List MemPlace} (h : DataW.trod enc Try.prog W base spare held fuel 22 [v] = some x) (hw : ∀ n ∈ x.1.weights Try.prog 22, n ≤ reachBytes) : ∃ xs : List Nat, BsC W v xs := by
  rcases open_ints Try.underlying22 Try.underlying5 Try.cU8 h with ⟨hcs, hx⟩ | ⟨a, len', cap', zs, hcs, _, hl, hm, hz, hx, hcell, hwz⟩
  · simp at hcs
    subst hcs
    exact ⟨[], none, 0, rfl, by simp, by simp, Or.inl ⟨rfl, rfl⟩, by simp⟩
  · simp at hcs
    subst hcs
    have hlz : len' ≤ zs.length := by split at hz <;> omega
    obtain ⟨xs, e1, e3, e2⟩ := bs_of_ints (a := a) (len := len') (cap := cap') (zs := zs) hlz hcell hwz
    subst e1
    refine ⟨xs, some a, cap', rfl, hl, ?_, e2, e3⟩
    rw [hx] at hw
    have h2 := hw (((lits .u8 (zs.take xs.length) : List (DataW H)).length + (lits .u8 (zs.drop xs.length) : List (DataW H)).length) * Try.prog.bytesOf 5) (by simp [DataW.weights, Try.underlying22])
    rw [Try.bU8] at h2
    simp [lits, reachBytes] at h2
    omega
/-- Byte slices that can be read at a slice of slices. -/
def Bss (w : World) (v : Value) (bs : List (List Nat)) : Prop :=
  ∃ ao cap, v = .slice ao bs.length cap ∧ bs.length ≤ 9223372036854775807 ∧ (bs ≠ [] → ∃ (b off : Nat) (V : Nat → Value), ao = some ⟨b, off, none⟩ ∧ ∀ i, i < bs.length → w.cell? ⟨b, off + i, none⟩ = some (V i) ∧ BsC w (V i) (bs.getD i []))
theorem Bss.fr {w w' : World} {S : Nat → Prop} {v : Value} {bs : List (List Nat)} (h : Bss w v bs) (hf : Fr w w' S) (hS : ∀ k, S k → w.heap.size ≤ k) : Bss w' v bs := by
  obtain ⟨ao, cap, e, hl, h1⟩ := h
  refine ⟨ao, cap, e, hl, fun hne => ?_⟩
  obtain ⟨b, off, V, e2, h2⟩ := h1 hne
  refine ⟨b, off, V, e2, fun i hi => ⟨?_, (h2 i hi).2.fr hf hS⟩⟩
  have hlt := World.block_lt_of_cell? w _ (h2 i hi).1
  rw [World.cell?_of_block (w := w) (hf.block _ hlt (fun hs => by have := hS _ hs; change b < _ at hlt; change _ ≤ b at this; omega))]
  exact (h2 i hi).1
theorem Bss.at {w : World} {ao : Option Addr} {n cap : Nat} {bs : List (List Nat)} (h : Bss w (.slice ao n cap) bs) {i : Nat} (hi : i < bs.length) : ∃ b off c2 ao2, ao = some ⟨b, off, none⟩ ∧ w.cell? ⟨b, off + i, none⟩ = some (.slice ao2 (bs.getD i []).length c2) ∧ b < w.heap.size ∧ BsC w (.slice ao2 (bs.getD i []).length c2) (bs.getD i []) := by
  obtain ⟨ao', cap', e, hl, h1⟩ := h
  obtain ⟨b, off, V, e2, h2⟩ := h1 (by intro e; subst e; simp at hi)
  simp only [Value.slice.injEq] at e
  obtain ⟨h3, h4⟩ := h2 i hi
  obtain ⟨a5, c5, e5, _⟩ := id h4
  rw [e5] at h3 h4
  exact ⟨b, off, c5, a5, by rw [e.1, e2], h3, World.block_lt_of_cell? w _ h3, h4⟩
theorem bss_of_trod {H : Type} {enc : TypeId × Value → H} {W : World} {base : Nat} {held : Bool} {fuel : Nat} {c : Value} {x : DataW H × List MemPlace} (h : DataW.trod enc Try.prog W base (fun _ => true) held fuel 43 [c] = some x) (hw : ∀ n ∈ x.1.weights Try.prog 43, n ≤ reachBytes) :
    ∃ bs : List (List Nat), Bss W c bs := by
  rcases Go.Deep.open_slice1 Try.underlying43 Try.cBs h with ⟨hcs, _⟩ | ⟨a, len, cap, m, n, V, D, Pl, hcs, _, hl, hm, hmm, hx, hV⟩
  · simp at hcs
    subst hcs
    exact ⟨[], ⟨none, 0, rfl, by simp, fun h => absurd rfl h⟩⟩
  · simp at hcs
    subst hcs
    simp only [if_true] at hmm
    rw [hx] at hw
    obtain ⟨F, hF⟩ := Go.Deep.choose_lt (α := List Nat) (p := fun i xs => BsC W (V i) xs) (n := len) (fun i hi => bsc_of_trod (hV i (by omega)).2 (fun q hq => hw q (by
      simp only [DataW.weights, Try.underlying43, List.mem_cons, List.mem_append]
      exact Or.inr (Or.inl (weightsAll_mem (List.mem_map.2 ⟨i, List.mem_range.2 hi, rfl⟩) q hq)))))
    refine ⟨(List.range len).map F, ?_⟩
    refine ⟨some a, cap, by simp, by unfold maxLen at hm; simp; omega, fun hne => ?_⟩
    have hpos : 0 < len := by
      rcases Nat.eq_zero_or_pos len with h0 | h0
      · subst h0
        simp at hne
      · exact h0
    obtain ⟨b, off, rfl⟩ := addr_plain (hV 0 (by omega)).1
    refine ⟨b, off, V, rfl, fun i hi => ?_⟩
    simp at hi
    have hc := (hV i (by omega)).1
    rw [Addr.add_lit] at hc
    refine ⟨hc, ?_⟩
    rw [show ((List.range len).map F).getD i [] = F i from by simp [List.getD, hi]]
    exact hF i hi
/-- A step. -/
structure Sp where
  k : Int
  c : Int
  b : List Nat
  m : Int
def sp0 : Sp := ⟨0, 0, [], 0⟩
def SpAt (w : World) (b o : Nat) (s : Sp) : Prop := w.cell? ⟨b, o, none⟩ = some (.int .i64 s.k) ∧ w.cell? ⟨b, o + 1, none⟩ = some (.int .i64 s.c) ∧ (∃ ao cap, w.cell? ⟨b, o + 2, none⟩ = some (.slice ao s.b.length cap) ∧ s.b.length ≤ cap ∧ BsC w (.slice ao s.b.length cap) s.b) ∧ w.cell? ⟨b, o + 3, none⟩ = some (.int .i64 s.m) ∧ b < w.heap.size
/-- Steps at a slice. -/
def Sps (w : World) (v : Value) (rs : List Sp) : Prop :=
  ∃ ao cap, v = .slice ao rs.length cap ∧ rs.length ≤ 9223372036854775807 ∧ (rs ≠ [] → ∃ (b off : Nat), ao = some ⟨b, off, none⟩ ∧ ∀ i, i < rs.length → SpAt w b (off + i * 4) (rs.getD i sp0))
theorem SpAt.fr {w w' : World} {S : Nat → Prop} {b o : Nat} {s : Sp} (h : SpAt w b o s) (hf : Fr w w' S) (hS : ∀ k, S k → w.heap.size ≤ k) : SpAt w' b o s := by
  obtain ⟨h0, h1, ⟨ao, cap, h2, h3, h4⟩, h5, hlt⟩ := h
  have hb : w'.heap[b]? = w.heap[b]? := hf.block b hlt (fun hs => by have := hS b hs; omega)
  have hc : ∀ q, w'.cell? ⟨b, q, none⟩ = w.cell? ⟨b, q, none⟩ := fun q => World.cell?_of_block (w := w) hb
  refine ⟨by rw [hc]; exact h0, by rw [hc]; exact h1, ⟨ao, cap, by rw [hc]; exact h2, h3, h4.fr hf hS⟩, by rw [hc]; exact h5, Nat.lt_of_lt_of_le hlt hf.size⟩
theorem Sps.fr {w w' : World} {S : Nat → Prop} {v : Value} {rs : List Sp} (h : Sps w v rs) (hf : Fr w w' S) (hS : ∀ k, S k → w.heap.size ≤ k) : Sps w' v rs := by
  obtain ⟨ao, cap, rfl, hl, hcell⟩ := h
  refine ⟨ao, cap, rfl, hl, fun hne => ?_⟩
  obtain ⟨b, off, rfl, hc⟩ := hcell hne
  exact ⟨b, off, rfl, fun i hi => (hc i hi).fr hf hS⟩
theorem Sps.at {w : World} {ao : Option Addr} {n cap : Nat} {rs : List Sp} (h : Sps w (.slice ao n cap) rs) {i : Nat} (hi : i < rs.length) : ∃ b off, ao = some ⟨b, off, none⟩ ∧ SpAt w b (off + i * 4) (rs.getD i sp0) := by
  obtain ⟨ao', cap', e, hl, hcell⟩ := h
  obtain ⟨b, off, e2, hc⟩ := hcell (by intro e; subst e; simp at hi)
  simp only [Value.slice.injEq] at e
  exact ⟨b, off, by rw [e.1, e2], hc i hi⟩
end Go.Proofs.Ytedlpefglgleeab
