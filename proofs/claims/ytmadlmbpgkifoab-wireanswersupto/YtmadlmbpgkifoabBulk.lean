/- How long what came in can be, by its bulk. -/
import Derived.Test.YtmadlmbpgkifoabRows
import Derived.Test.YtmadlmbpgkifoabArgs2
namespace Go.Proofs.Ytmadlmbpgkifoab
open Go.ChangeShapes Go.WideShapes Go.ChangeAt Go.RowKit

theorem bulk_pos {H : Type} (d : DataW H) : 1 ≤ Rows.uptoBulk d := by
  cases d with
  | lit l => cases l <;> simp [Rows.uptoBulk]
  | _ => simp [Rows.uptoBulk]
theorem bulk_mem {H : Type} {d : DataW H} : ∀ {l : List (DataW H)}, d ∈ l → Rows.uptoBulk d ≤ Rows.uptoBulkAll l
  | [], h => by cases h
  | x :: r, h => by
    rw [Rows.uptoBulkAll]
    rcases List.mem_cons.1 h with e | e
    · rw [e]; omega
    · have := bulk_mem e; omega
theorem bulk_len {H : Type} : ∀ (l : List (DataW H)), l.length ≤ Rows.uptoBulkAll l
  | [] => by simp
  | x :: r => by
    rw [Rows.uptoBulkAll, List.length_cons]
    have h1 := bulk_pos x
    have h2 := bulk_len r
    omega
theorem bulk_slice {H : Type} (el sp : List (DataW H)) : Rows.uptoBulkAll el + 1 ≤ Rows.uptoBulk (.slice el sp) := by
  rw [Rows.uptoBulk]
  omega
theorem bulk_all {H : Type} {l : List (DataW H)} (hk : Rows.uptoSmall H l = true) : Rows.uptoBulkAll l ≤ 1048576 := of_decide_eq_true hk

theorem bytes_bulk {H : Type} {enc : TypeId × Value → H} {W : World} {base : Nat} {spare : Nat → Bool} {held : Bool} {fuel : Nat} {v : Value} {x : DataW H × List MemPlace} (h : DataW.trod enc Try.prog W base spare held fuel 24 [v] = some x) :
    ∃ xs : List Nat, (∀ j, xs.getD j 0 < 256) ∧ Bs W v xs ∧ xs.length ≤ Rows.uptoBulk x.1 := by
  rcases open_ints Try.underlying24 Try.underlying5 Try.cells5 h with ⟨hcs, hx⟩ | ⟨a, len', cap', zs, hcs, _, hl, hm, hz, hx, hcell, hwz⟩
  · simp at hcs
    subst hcs
    exact ⟨[], by simp, Or.inl ⟨rfl, rfl⟩, by simp⟩
  · simp at hcs
    subst hcs
    have hzl : len' ≤ zs.length := by split at hz <;> omega
    obtain ⟨xs, e1, e3, e2⟩ := bs_of_ints (a := a) (len := len') (cap := cap') (zs := zs) hzl hcell hwz
    refine ⟨xs, e3, e2, ?_⟩
    rw [hx, e1]
    have h1 := bulk_slice (H := H) (lits .u8 (zs.take len')) (lits .u8 (zs.drop len'))
    have h2 := bulk_len (H := H) (lits .u8 (zs.take len'))
    have h3 : (lits (H := H) .u8 (zs.take len')).length = len' := by simp [lits]; omega
    show len' ≤ Rows.uptoBulk (DataW.slice (lits (H := H) .u8 (zs.take len')) (lits .u8 (zs.drop len')))
    omega

theorem bss_bulk {H : Type} {enc : TypeId × Value → H} {W : World} {base : Nat} {held : Bool} {fuel : Nat} {a0 : Option Addr} {len cap : Nat} {x : DataW H × List MemPlace} (h : DataW.trod enc Try.prog W base (fun _ => true) held fuel 49 [.slice a0 len cap] = some x) :
    ∃ bs : List (List Nat), (∀ g ∈ bs, ∀ j, g.getD j 0 < 256) ∧ Bss W (.slice a0 len cap) bs ∧ bs.length ≤ Rows.uptoBulk x.1 ∧ ∀ g ∈ bs, g.length ≤ Rows.uptoBulk x.1 := by
  rcases Go.Deep.open_slice1 Try.underlying49 Try.cells24 h with ⟨hcs, _⟩ | ⟨a, len', cap', m, n, V, D, Pl, hcs, _, hl, hm, hmm, hx, hV⟩
  · simp at hcs
    obtain ⟨rfl, rfl, rfl⟩ := hcs
    exact ⟨[], by simp, ⟨none, 0, rfl, fun h => absurd rfl h⟩, by simp, by simp⟩
  · simp at hcs
    obtain ⟨rfl, rfl, rfl⟩ := hcs
    simp only [if_true] at hmm
    obtain ⟨F, hF⟩ := Go.Deep.choose_lt (α := List Nat) (p := fun i xs => (∀ j, xs.getD j 0 < 256) ∧ Bs W (V i) xs ∧ xs.length ≤ Rows.uptoBulk (D i)) (n := len) (fun i hi => bytes_bulk (hV i (by omega)).2)
    have hsl : Rows.uptoBulkAll ((List.range len).map D) + 1 ≤ Rows.uptoBulk x.1 := by
      rw [hx]
      exact bulk_slice _ _
    refine ⟨(List.range len).map F, ?_, ?_, ?_, ?_⟩
    · intro g hg
      obtain ⟨i, hi, rfl⟩ := List.mem_map.1 hg
      exact (hF i (List.mem_range.1 hi)).1
    · refine ⟨some a, cap, by simp, fun hne => ?_⟩
      have hpos : 0 < len := by
        rcases Nat.eq_zero_or_pos len with h0 | h0
        · subst h0
          simp at hne
        · exact h0
      obtain ⟨b, off, rfl⟩ := addr_plain (hV 0 (by omega)).1
      refine ⟨b, off, V, rfl, fun i hi => ?_⟩
      simp at hi
      have hc := (hV i (by omega)).1
      rw [Addr.add_lit] at hc
      refine ⟨hc, ?_⟩
      have := (hF i hi).2.1
      simpa [List.getD, hi] using this
    · have := bulk_len ((List.range len).map D)
      simp at this ⊢
      omega
    · intro g hg
      obtain ⟨i, hi, rfl⟩ := List.mem_map.1 hg
      have h1 := (hF i (List.mem_range.1 hi)).2.2
      have h2 := bulk_mem (List.mem_map.2 ⟨i, hi, rfl⟩ : D i ∈ (List.range len).map D)
      omega

theorem css_bulk {H : Type} {enc : TypeId × Value → H} {W : World} {base : Nat} {held : Bool} {fuel : Nat} {a0 : Option Addr} {len cap : Nat} {x : DataW H × List MemPlace} (h : DataW.trod enc Try.prog W base (fun _ => true) held fuel 50 [.slice a0 len cap] = some x) (hb : Rows.uptoBulk x.1 ≤ 1048576) :
    ∃ cs : List Int, Css W (.slice a0 len cap) cs := by
  refine css_of_trod h ?_
  rcases open_ints Try.underlying50 Try.underlying3 Try.cells3 h with ⟨hcs, hx⟩ | ⟨a, len', cap', zs, hcs, _, hl, hm, hz, hx, hcell, hwz⟩
  · simp at hcs
    omega
  · simp at hcs
    obtain ⟨rfl, rfl, rfl⟩ := hcs
    simp only [if_true] at hz
    rw [hx] at hb
    have h1 := bulk_slice (H := H) (lits .i64 (zs.take len)) (lits .i64 (zs.drop len))
    have h2 := bulk_len (H := H) (lits .i64 (zs.take len))
    have h3 : (lits (H := H) .i64 (zs.take len)).length = len := by simp [lits]; omega
    simp only at hb
    omega
end Go.Proofs.Ytmadlmbpgkifoab
