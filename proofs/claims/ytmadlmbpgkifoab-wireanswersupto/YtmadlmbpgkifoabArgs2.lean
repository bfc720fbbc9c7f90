/- Arguments that came in: slices of byte slices, slices of ints. -/
import Derived.Test.YtmadlmbpgkifoabArgs
import Derived.Test.YtmadlmbpgkifoabLists
import Derived.Deep.Slices
namespace Go.Proofs.Ytmadlmbpgkifoab
open Go.ChangeShapes Go.WideShapes Go.ChangeAt Go.RowKit

theorem Try.cells5 : Try.prog.cellsOf 5 = 1 := by kernel_rfl
theorem Try.cells24 : Try.prog.cellsOf 24 = 1 := by kernel_rfl
theorem Try.cells3 : Try.prog.cellsOf 3 = 1 := by kernel_rfl

theorem addr_plain {W : World} {a : Addr} {v : Value} (h : W.cell? (a.add 0) = some v) : ∃ b off, a = ⟨b, off, none⟩ := by
  obtain ⟨b, off, spot⟩ := a
  have hspot : spot = none := by simpa [Addr.add] using World.cell?_spot h
  exact ⟨b, off, by rw [hspot]⟩

/-- Ints that can be read at a slice. -/
def Css (w : World) (v : Value) (cs : List Int) : Prop :=
  ∃ ao cap, v = .slice ao cs.length cap ∧ cs.length ≤ 140737488355328 ∧ (cs ≠ [] → ∃ (b off : Nat), ao = some ⟨b, off, none⟩ ∧ ∀ i, i < cs.length → w.cell? ⟨b, off + i, none⟩ = some (.int .i64 (cs.getD i 0)))

theorem bytes_of_trod {H : Type} {enc : TypeId × Value → H} {W : World} {base : Nat} {spare : Nat → Bool} {held : Bool} {fuel : Nat} {v : Value} {x : DataW H × List MemPlace} (h : DataW.trod enc Try.prog W base spare held fuel 24 [v] = some x) :
    ∃ xs : List Nat, (∀ j, xs.getD j 0 < 256) ∧ Bs W v xs := by
  rcases open_ints Try.underlying24 Try.underlying5 Try.cells5 h with ⟨hcs, hx⟩ | ⟨a, len', cap', zs, hcs, _, hl, hm, hz, hx, hcell, hwz⟩
  · simp at hcs
    subst hcs
    exact ⟨[], by simp, Or.inl ⟨rfl, rfl⟩⟩
  · simp at hcs
    subst hcs
    obtain ⟨xs, _, e3, e2⟩ := bs_of_ints (a := a) (len := len') (cap := cap') (zs := zs) (by split at hz <;> omega) hcell hwz
    exact ⟨xs, e3, e2⟩

theorem bss_of_trod {H : Type} {enc : TypeId × Value → H} {W : World} {base : Nat} {held : Bool} {fuel : Nat} {a0 : Option Addr} {len cap : Nat} {x : DataW H × List MemPlace} (h : DataW.trod enc Try.prog W base (fun _ => true) held fuel 49 [.slice a0 len cap] = some x) :
    ∃ bs : List (List Nat), (∀ g ∈ bs, ∀ j, g.getD j 0 < 256) ∧ Bss W (.slice a0 len cap) bs := by
  rcases Go.Deep.open_slice1 Try.underlying49 Try.cells24 h with ⟨hcs, _⟩ | ⟨a, len', cap', m, n, V, D, Pl, hcs, _, hl, hm, hmm, _, hV⟩
  · simp at hcs
    obtain ⟨rfl, rfl, rfl⟩ := hcs
    exact ⟨[], by simp, ⟨none, 0, rfl, fun h => absurd rfl h⟩⟩
  · simp at hcs
    obtain ⟨rfl, rfl, rfl⟩ := hcs
    simp only [if_true] at hmm
    obtain ⟨F, hF⟩ := Go.Deep.choose_lt (α := List Nat) (p := fun i xs => (∀ j, xs.getD j 0 < 256) ∧ Bs W (V i) xs) (n := len) (fun i hi => bytes_of_trod (hV i (by omega)).2)
    refine ⟨(List.range len).map F, ?_, ?_⟩
    · intro g hg
      obtain ⟨i, hi, rfl⟩ := List.mem_map.1 hg
      exact (hF i (List.mem_range.1 hi)).1
    · refine ⟨some a, cap, by simp, fun hne => ?_⟩
      have hpos : 0 < len := by
        rcases Nat.eq_zero_or_pos len with h0 | h0
        · subst h0
          simp at hne
        · exact h0
      obtain ⟨b, off, rfl⟩ := addr_plain (hV 0 (by omega)).1
      refine ⟨b, off, V, rfl, fun i hi => ?_⟩
      simp at hi
      have hc := (hV i (by omega)).1
      rw [Addr.add_lit] at hc
      refine ⟨hc, ?_⟩
      rw [show ((List.range len).map F).getD i [] = F i from by simp [List.getD, hi]]
      exact (hF i hi).2

theorem css_of_trod {H : Type} {enc : TypeId × Value → H} {W : World} {base : Nat} {held : Bool} {fuel : Nat} {a0 : Option Addr} {len cap : Nat} {x : DataW H × List MemPlace} (h : DataW.trod enc Try.prog W base (fun _ => true) held fuel 50 [.slice a0 len cap] = some x) (hlen : len ≤ 140737488355328) :
    ∃ cs : List Int, Css W (.slice a0 len cap) cs := by
  rcases open_ints Try.underlying50 Try.underlying3 Try.cells3 h with ⟨hcs, hx⟩ | ⟨a, len', cap', zs, hcs, _, hl, hm, hz, hx, hcell, hwz⟩
  · simp at hcs
    obtain ⟨rfl, rfl, rfl⟩ := hcs
    exact ⟨[], ⟨none, 0, rfl, by simp, fun h => absurd rfl h⟩⟩
  · simp at hcs
    obtain ⟨rfl, rfl, rfl⟩ := hcs
    simp only [if_true] at hz
    have hlt : (zs.take len).length = len := by simp; omega
    refine ⟨zs.take len, ⟨some a, cap, by rw [hlt], by rw [hlt]; exact hlen, fun hne => ?_⟩⟩
    have hpos : 0 < len := by
      rcases Nat.eq_zero_or_pos len with h0 | h0
      · subst h0
        simp at hne
      · exact h0
    obtain ⟨b, off, rfl⟩ := addr_plain (hcell 0 (by omega))
    refine ⟨b, off, rfl, fun i hi => ?_⟩
    rw [hlt] at hi
    have hc := hcell i (by omega)
    rw [Addr.add_lit] at hc
    rw [hc]
    simp [List.getD, hi]
end Go.Proofs.Ytmadlmbpgkifoab
