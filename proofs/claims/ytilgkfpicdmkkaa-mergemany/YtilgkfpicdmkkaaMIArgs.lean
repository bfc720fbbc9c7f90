/- Arguments that came in: numbers, lists of lists. Written by wip/gen/genmlaw.py. -/
import Derived.Test.YtilgkfpicdmkkaaMRArgs
import Derived.Test.YtilgkfpicdmkkaaMMany0
namespace Go.Proofs.Ytilgkfpicdmkkaa.M
open Go.ChangeShapes Go.WideShapes Go.ChangeAt Go.RowKit

set_option maxRecDepth 100000 in
theorem int_of_trod {H : Type} {enc : TypeId × Value → H} {w : World} {base : Nat} {held : Bool} {fuel : Nat} {a : Addr} {cs : List Value} {x : DataW H × List MemPlace} (hc : w.cells? base a 1 = some cs) (h : DataW.trod enc Try.prog w base (fun _ => true) held fuel 3 cs = some x) :
    ∃ r : Int, ∃ b o, a = ⟨b, o, none⟩ ∧ w.cell? ⟨b, o, none⟩ = some (.int .i64 r) := by
  obtain ⟨n0, e0, _, w0⟩ := DataW.trod_int Try.underlying3 h
  obtain ⟨_, hl5, hcell⟩ := World.cells?_some hc
  subst e0
  have h0 := hcell 0 (by omega)
  obtain ⟨b, o, rfl⟩ := addr_plain (h0.trans rfl)
  rw [Addr.add_lit] at h0
  exact ⟨n0, b, o, rfl, h0⟩
set_option maxRecDepth 100000 in
theorem ints_of_trod {H : Type} {enc : TypeId × Value → H} {w : World} {base : Nat} {held : Bool} {fuel : Nat} {c : Value} {x : DataW H × List MemPlace} (h : DataW.trod enc Try.prog w base (fun _ => true) held fuel 36 [c] = some x) :
    ∃ L : List Int, RdI w c L := by
  rcases Go.Deep.open_slice Try.underlying36 h with ⟨hcs, _⟩ | ⟨a, len, cap, m, n, D, Pl, hcs, _, hl, hm, hmm, hx, hV⟩
  · simp at hcs
    subst hcs
    exact ⟨[], none, 0, rfl, by simp, fun h => by simp at h⟩
  · simp at hcs
    subst hcs
    simp only [if_true] at hmm
    rw [Try.ck_int] at hV
    obtain ⟨F, hF⟩ := Go.Deep.choose_lt (α := Int) (p := fun i s => ∃ b o, a.add (i * 1) = ⟨b, o, none⟩ ∧ w.cell? ⟨b, o, none⟩ = some (.int .i64 s)) (n := len) (fun i hi => by
      obtain ⟨cs', h1, h2⟩ := hV i (by omega)
      exact int_of_trod h1 h2)
    have hl2 : ((List.range len).map F).length = len := by simp
    unfold maxLen at hm
    refine ⟨(List.range len).map F, some a, cap, by rw [hl2], by rw [hl2]; omega, fun hpos => ?_⟩
    rw [hl2] at hpos
    obtain ⟨b, o, e1, h1⟩ := hF 0 hpos
    have ha : ∃ b o, a = ⟨b, o, none⟩ := by
      obtain ⟨ab, ao, asp⟩ := a
      rw [Nat.zero_mul] at e1
      have := congrArg Addr.spot e1
      simp [Addr.add] at this
      cases asp with
      | none => exact ⟨ab, ao, rfl⟩
      | some z => simp at this
    obtain ⟨b', o', rfl⟩ := ha
    refine ⟨b', o', rfl, fun i hi => ?_⟩
    rw [hl2] at hi
    obtain ⟨b2, o2, e2, h2⟩ := hF i hi
    rw [Addr.add_lit, Nat.mul_one] at e2
    simp only [Addr.mk.injEq, and_true] at e2
    obtain ⟨rfl, rfl⟩ := e2
    simpa [hi] using h2
theorem Try.ck_rs : Try.prog.cellsOf 22 = 1 := by kernel_rfl
theorem Try.ck_is : Try.prog.cellsOf 36 = 1 := by kernel_rfl
set_option maxRecDepth 100000 in
theorem rowss_of_trod {H : Type} {enc : TypeId × Value → H} {w : World} {base : Nat} {held : Bool} {fuel : Nat} {c : Value} {x : DataW H × List MemPlace} (h : DataW.trod enc Try.prog w base (fun _ => true) held fuel 25 [c] = some x) :
    ∃ LL : List (List Rw), RdRs w c LL := by
  rcases Go.Deep.open_slice Try.underlying25 h with ⟨hcs, _⟩ | ⟨a, len, cap, m, n, D, Pl, hcs, _, hl, hm, hmm, hx, hV⟩
  · simp at hcs
    subst hcs
    exact ⟨[], none, 0, rfl, by simp, fun h => by simp at h⟩
  · simp at hcs
    subst hcs
    simp only [if_true] at hmm
    rw [Try.ck_rs] at hV
    obtain ⟨F, hF⟩ := Go.Deep.choose_lt (α := List Rw) (p := fun i s => ∃ b o u, a.add (i * 1) = ⟨b, o, none⟩ ∧ w.cell? ⟨b, o, none⟩ = some u ∧ RdR w u s) (n := len) (fun i hi => by
      obtain ⟨cs', h1, h2⟩ := hV i (by omega)
      obtain ⟨_, hl5, hcell⟩ := World.cells?_some h1
      match cs', hl5 with
      | [u], _ =>
        have h0 := hcell 0 (by omega)
        obtain ⟨b, o, e⟩ := addr_plain (h0.trans rfl)
        rw [e, Addr.add_lit] at h0
        obtain ⟨L, hL⟩ := rows_of_trod h2
        exact ⟨L, b, o, u, e, h0, hL⟩)
    have hl2 : ((List.range len).map F).length = len := by simp
    unfold maxLen at hm
    refine ⟨(List.range len).map F, some a, cap, by rw [hl2], by rw [hl2]; omega, fun hpos => ?_⟩
    rw [hl2] at hpos
    obtain ⟨b, o, u, e1, h1, _⟩ := hF 0 hpos
    have ha : ∃ b o, a = ⟨b, o, none⟩ := by
      obtain ⟨ab, ao, asp⟩ := a
      rw [Nat.zero_mul] at e1
      have := congrArg Addr.spot e1
      simp [Addr.add] at this
      cases asp with
      | none => exact ⟨ab, ao, rfl⟩
      | some z => simp at this
    obtain ⟨b', o', rfl⟩ := ha
    refine ⟨b', o', rfl, fun i hi => ?_⟩
    rw [hl2] at hi
    obtain ⟨b2, o2, u2, e2, h2, h3⟩ := hF i hi
    rw [Addr.add_lit, Nat.mul_one] at e2
    simp only [Addr.mk.injEq, and_true] at e2
    obtain ⟨rfl, rfl⟩ := e2
    refine ⟨u2, h2, ?_⟩
    simpa [hi] using h3
set_option maxRecDepth 100000 in
theorem intss_of_trod {H : Type} {enc : TypeId × Value → H} {w : World} {base : Nat} {held : Bool} {fuel : Nat} {c : Value} {x : DataW H × List MemPlace} (h : DataW.trod enc Try.prog w base (fun _ => true) held fuel 38 [c] = some x) :
    ∃ LL : List (List Int), RdIs w c LL := by
  rcases Go.Deep.open_slice Try.underlying38 h with ⟨hcs, _⟩ | ⟨a, len, cap, m, n, D, Pl, hcs, _, hl, hm, hmm, hx, hV⟩
  · simp at hcs
    subst hcs
    exact ⟨[], none, 0, rfl, by simp, fun h => by simp at h⟩
  · simp at hcs
    subst hcs
    simp only [if_true] at hmm
    rw [Try.ck_is] at hV
    obtain ⟨F, hF⟩ := Go.Deep.choose_lt (α := List Int) (p := fun i s => ∃ b o u, a.add (i * 1) = ⟨b, o, none⟩ ∧ w.cell? ⟨b, o, none⟩ = some u ∧ RdI w u s) (n := len) (fun i hi => by
      obtain ⟨cs', h1, h2⟩ := hV i (by omega)
      obtain ⟨_, hl5, hcell⟩ := World.cells?_some h1
      match cs', hl5 with
      | [u], _ =>
        have h0 := hcell 0 (by omega)
        obtain ⟨b, o, e⟩ := addr_plain (h0.trans rfl)
        rw [e, Addr.add_lit] at h0
        obtain ⟨L, hL⟩ := ints_of_trod h2
        exact ⟨L, b, o, u, e, h0, hL⟩)
    have hl2 : ((List.range len).map F).length = len := by simp
    unfold maxLen at hm
    refine ⟨(List.range len).map F, some a, cap, by rw [hl2], by rw [hl2]; omega, fun hpos => ?_⟩
    rw [hl2] at hpos
    obtain ⟨b, o, u, e1, h1, _⟩ := hF 0 hpos
    have ha : ∃ b o, a = ⟨b, o, none⟩ := by
      obtain ⟨ab, ao, asp⟩ := a
      rw [Nat.zero_mul] at e1
      have := congrArg Addr.spot e1
      simp [Addr.add] at this
      cases asp with
      | none => exact ⟨ab, ao, rfl⟩
      | some z => simp at this
    obtain ⟨b', o', rfl⟩ := ha
    refine ⟨b', o', rfl, fun i hi => ?_⟩
    rw [hl2] at hi
    obtain ⟨b2, o2, u2, e2, h2, h3⟩ := hF i hi
    rw [Addr.add_lit, Nat.mul_one] at e2
    simp only [Addr.mk.injEq, and_true] at e2
    obtain ⟨rfl, rfl⟩ := e2
    refine ⟨u2, h2, ?_⟩
    simpa [hi] using h3
end Go.Proofs.Ytilgkfpicdmkkaa.M
