/- What a script of marks is; the law's within: a walk. -/
import Derived.Test.YtbhhpkbiflolfaaQRise
import Derived.Deep.DeepCutAuto
namespace Go.Proofs.Ytbhhpkbiflolfaa
open Go.RowKit


/-- A mark that is told: whose, and which. -/
structure Rq where
  s : Int
  t : Int
def rq0 : Rq := ⟨0, 0⟩
/-- A script that can be read at a slice. -/
def Rs (w : World) (v : Value) (rs : List Rq) : Prop :=
  ∃ ao cap, v = .slice ao rs.length cap ∧ rs.length ≤ 9223372036854775807 ∧ (rs ≠ [] → ∃ (b off : Nat), ao = some ⟨b, off, none⟩ ∧ ∀ i, i < rs.length → w.cell? ⟨b, off + i * 2, none⟩ = some (.int .i64 (rs.getD i rq0).s) ∧ w.cell? ⟨b, off + i * 2 + 1, none⟩ = some (.int .i64 (rs.getD i rq0).t))
theorem Rs.fr {w w' : World} {v : Value} {rs : List Rq} (h : Rs w v rs) (hf : Fr w w' (fun _ => False)) : Rs w' v rs := by
  obtain ⟨ao, cap, rfl, hl, hcell⟩ := h
  refine ⟨ao, cap, rfl, hl, fun hne => ?_⟩
  obtain ⟨b, off, rfl, hc⟩ := hcell hne
  refine ⟨b, off, rfl, fun i hi => ?_⟩
  obtain ⟨h0, h1⟩ := hc i hi
  have hlt := World.block_lt_of_cell? w _ h0
  have hr := (fr_rules hf).1 b
  exact ⟨by rw [hr _ hlt]; exact h0, by rw [hr _ hlt]; exact h1⟩
theorem Rs.at {w : World} {ao : Option Addr} {n cap : Nat} {rs : List Rq} (h : Rs w (.slice ao n cap) rs) {i : Nat} (hi : i < rs.length) : ∃ b off, ao = some ⟨b, off, none⟩ ∧ w.cell? ⟨b, off + i * 2, none⟩ = some (.int .i64 (rs.getD i rq0).s) ∧ w.cell? ⟨b, off + i * 2 + 1, none⟩ = some (.int .i64 (rs.getD i rq0).t) := by
  obtain ⟨ao', cap', e, hl, hcell⟩ := h
  obtain ⟨b, off, e2, hc⟩ := hcell (by intro e; subst e; simp at hi)
  simp only [Value.slice.injEq] at e
  exact ⟨b, off, by rw [e.1, e2], (hc i hi).1, (hc i hi).2⟩

/-- Numbers that can be read at a slice. -/
def Nu (w : World) (v : Value) (xs : List Int) : Prop :=
  ∃ ao cap, v = .slice ao xs.length cap ∧ xs.length ≤ 9223372036854775807 ∧ (∀ x ∈ xs, fits x) ∧ (xs ≠ [] → ∃ (b off : Nat), ao = some ⟨b, off, none⟩ ∧ ∀ i, i < xs.length → w.cell? ⟨b, off + i, none⟩ = some (.int .i64 (xs.getD i 0)))
theorem Nu.fr {w w' : World} {v : Value} {xs : List Int} (h : Nu w v xs) (hf : Fr w w' (fun _ => False)) : Nu w' v xs := by
  obtain ⟨ao, cap, rfl, hl, hfit, hcell⟩ := h
  refine ⟨ao, cap, rfl, hl, hfit, fun hne => ?_⟩
  obtain ⟨b, off, rfl, hc⟩ := hcell hne
  refine ⟨b, off, rfl, fun i hi => ?_⟩
  have h0 := hc i hi
  rw [(fr_rules hf).1 b _ (World.block_lt_of_cell? w _ h0)]
  exact h0
theorem Nu.at {w : World} {ao : Option Addr} {n cap : Nat} {xs : List Int} (h : Nu w (.slice ao n cap) xs) {i : Nat} (hi : i < xs.length) : ∃ b off, ao = some ⟨b, off, none⟩ ∧ w.cell? ⟨b, off + i, none⟩ = some (.int .i64 (xs.getD i 0)) ∧ fits (xs.getD i 0) := by
  obtain ⟨ao', cap', e, hl, hfit, hcell⟩ := h
  obtain ⟨b, off, e2, hc⟩ := hcell (by intro e; subst e; simp at hi)
  simp only [Value.slice.injEq] at e
  have e3 : xs.getD i 0 = xs[i] := by simp [List.getD, hi]
  exact ⟨b, off, by rw [e.1, e2], hc i hi, by rw [e3]; exact hfit _ (List.getElem_mem hi)⟩

/-- A view: Size, Slide, Late. -/
structure Vw where
  s : Int
  d : Int
  l : Int
deriving DecidableEq
def vw0 : Vw := ⟨0, 0, 0⟩
/-- Views that can be read at a slice. -/
def Vs (w : World) (v : Value) (vs : List Vw) : Prop :=
  ∃ ao cap, v = .slice ao vs.length cap ∧ vs.length ≤ 9223372036854775807 ∧ (vs ≠ [] → ∃ (b off : Nat), ao = some ⟨b, off, none⟩ ∧ ∀ i, i < vs.length → w.cell? ⟨b, off + i * 3, none⟩ = some (.int .i64 (vs.getD i vw0).s) ∧ w.cell? ⟨b, off + i * 3 + 1, none⟩ = some (.int .i64 (vs.getD i vw0).d) ∧ w.cell? ⟨b, off + i * 3 + 2, none⟩ = some (.int .i64 (vs.getD i vw0).l))
theorem Vs.fr {w w' : World} {S : Nat → Prop} {v : Value} {vs : List Vw} (h : Vs w v vs) (hf : Fr w w' S) (hv : ∀ k o n c, v = .slice (some ⟨k, o, none⟩) n c → ¬ S k) : Vs w' v vs := by
  obtain ⟨ao, cap, rfl, hl, hcell⟩ := h
  refine ⟨ao, cap, rfl, hl, fun hne => ?_⟩
  obtain ⟨b, off, rfl, hc⟩ := hcell hne
  refine ⟨b, off, rfl, fun i hi => ?_⟩
  obtain ⟨h0, h1, h2⟩ := hc i hi
  have hlt : b < w.heap.size := World.block_lt_of_cell? w _ h0
  have hbl := hf.block b hlt (hv b off _ _ rfl)
  have hr : ∀ o, w'.cell? ⟨b, o, none⟩ = w.cell? ⟨b, o, none⟩ := fun o => by simp only [World.cell?, hbl]
  exact ⟨by rw [hr]; exact h0, by rw [hr]; exact h1, by rw [hr]; exact h2⟩
theorem Vs.at {w : World} {ao : Option Addr} {n cap : Nat} {vs : List Vw} (h : Vs w (.slice ao n cap) vs) {i : Nat} (hi : i < vs.length) : ∃ b off, ao = some ⟨b, off, none⟩ ∧ w.cell? ⟨b, off + i * 3, none⟩ = some (.int .i64 (vs.getD i vw0).s) ∧ w.cell? ⟨b, off + i * 3 + 1, none⟩ = some (.int .i64 (vs.getD i vw0).d) ∧ w.cell? ⟨b, off + i * 3 + 2, none⟩ = some (.int .i64 (vs.getD i vw0).l) := by
  obtain ⟨ao', cap', e, hl, hcell⟩ := h
  obtain ⟨b, off, e2, hc⟩ := hcell (by intro e; subst e; simp at hi)
  simp only [Value.slice.injEq] at e
  exact ⟨b, off, by rw [e.1, e2], hc i hi⟩
end Go.Proofs.Ytbhhpkbiflolfaa
