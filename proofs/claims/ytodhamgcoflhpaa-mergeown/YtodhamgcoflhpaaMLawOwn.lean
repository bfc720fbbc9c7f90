/- MergeOwn returns true for every two lists of rows and two lists of numbers; no conditions. -/
import Derived.Test.YtodhamgcoflhpaaMOwn
import Derived.Test.YtodhamgcoflhpaaMRArgs
import Derived.Carry
import Derived.ChangeMaps5
import Derived.Below
namespace Go.Proofs.Ytodhamgcoflhpaa.M
open Go.ChangeShapes Go.WideShapes Go.ChangeAt Go.RowKit

theorem ownOwn : ownKnob Try.prog.godebug = none := by kernel_rfl
theorem ownLaid : laidOutB Try.prog = true := by kernel_rfl
set_option maxRecDepth 100000 in
theorem int_of_trod {H : Type} {enc : TypeId × Value → H} {w : World} {base : Nat} {held : Bool} {fuel : Nat} {a : Addr} {cs : List Value} {x : DataW H × List MemPlace} (hc : w.cells? base a 1 = some cs) (h : DataW.trod enc Try.prog w base (fun _ => true) held fuel 3 cs = some x) :
    ∃ r : Int, ∃ b o, a = ⟨b, o, none⟩ ∧ w.cell? ⟨b, o, none⟩ = some (.int .i64 r) := by
  obtain ⟨n0, e0, _, w0⟩ := DataW.trod_int Try.underlying3 h
  obtain ⟨_, hl5, hcell⟩ := World.cells?_some hc
  subst e0
  have h0 := hcell 0 (by omega)
  obtain ⟨b, o, rfl⟩ := addr_plain (h0.trans rfl)
  rw [Addr.add_lit] at h0
  exact ⟨n0, b, o, rfl, h0⟩
set_option maxRecDepth 100000 in
theorem ints_of_trod {H : Type} {enc : TypeId × Value → H} {w : World} {base : Nat} {held : Bool} {fuel : Nat} {c : Value} {x : DataW H × List MemPlace} (h : DataW.trod enc Try.prog w base (fun _ => true) held fuel 44 [c] = some x) :
    ∃ L : List Int, RdI w c L := by
  rcases Go.Deep.open_slice Try.underlying44 h with ⟨hcs, _⟩ | ⟨a, len, cap, m, n, D, Pl, hcs, _, hl, hm, hmm, hx, hV⟩
  · simp at hcs
    subst hcs
    exact ⟨[], none, 0, rfl, by simp, fun h => by simp at h⟩
  · simp at hcs
    subst hcs
    simp only [if_true] at hmm
    rw [Try.ck_int] at hV
    obtain ⟨F, hF⟩ := Go.Deep.choose_lt (α := Int) (p := fun i s => ∃ b o, a.add (i * 1) = ⟨b, o, none⟩ ∧ w.cell? ⟨b, o, none⟩ = some (.int .i64 s)) (n := len) (fun i hi => by
      obtain ⟨cs', h1, h2⟩ := hV i (by omega)
      exact int_of_trod h1 h2)
    have hl2 : ((List.range len).map F).length = len := by simp
    unfold maxLen at hm
    refine ⟨(List.range len).map F, some a, cap, by rw [hl2], by rw [hl2]; omega, fun hpos => ?_⟩
    rw [hl2] at hpos
    obtain ⟨b, o, e1, h1⟩ := hF 0 hpos
    have ha : ∃ b o, a = ⟨b, o, none⟩ := by
      obtain ⟨ab, ao, asp⟩ := a
      rw [Nat.zero_mul] at e1
      have := congrArg Addr.spot e1
      simp [Addr.add] at this
      cases asp with
      | none => exact ⟨ab, ao, rfl⟩
      | some z => simp at this
    obtain ⟨b', o', rfl⟩ := ha
    refine ⟨b', o', rfl, fun i hi => ?_⟩
    rw [hl2] at hi
    obtain ⟨b2, o2, e2, h2⟩ := hF i hi
    rw [Addr.add_lit, Nat.mul_one] at e2
    simp only [Addr.mk.injEq, and_true] at e2
    obtain ⟨rfl, rfl⟩ := e2
    simpa [hi] using h2
set_option maxRecDepth 100000 in
theorem own_lifted (os : Os) (started : os.Started) (H : Type) (enc : TypeId × Value → H) :
    ReturnsInHanded {} Try.checked os 5 .any (Rows.mergeOwnSpec.pre6 enc Try.prog Try.f5 Rows.mergeOwnRow.domain false) (Rows.mergeOwnSpec.post enc Try.prog Try.f5 false true false false) := by
  refine returnsInHanded_of_change (C := Try.checked) ownOwn started (by kernel_rfl) Try.func5
    (ChangeSpec.witness6 (enc := enc) (C := Try.checked) false ⟨#[], #[.slice none 0 0, .slice none 0 0, .slice none 0 0, .slice none 0 0], []⟩ 8 (by kernel_rfl) (by kernel_rfl) (by kernel_rfl) (by kernel_rfl)) ?_
  intro V base args ds gs before hval0 hW hcnd _
  have hval : ∀ (j : Nat) t v, Try.f5.params[j]? = some t → args[j]? = some v → Value.okWide Try.prog V .any base t v := hval0
  have hW' := hW
  obtain ⟨p, q, hA0, hV, rfl, hfz, hnd⟩ := hW
  have hA : DataW.TrodAll enc Try.prog V 0 (fun _ => true) true Try.f5.params.toList args.toList ds p := hA0
  rw [Try.params5] at hA hval
  obtain ⟨v0, vs0, d0, ds0, p0, q0, hargs, rfl, rfl, h0, hr0⟩ := trodAll_cons hA
  obtain ⟨v1, vs1, d1, ds1, p1, q1, rfl, rfl, rfl, h1, hr1⟩ := trodAll_cons hr0
  obtain ⟨v2, vs2, d2, ds2, p2, q2, rfl, rfl, rfl, h2, hr2⟩ := trodAll_cons hr1
  obtain ⟨v3, vs3, d3, ds3, p3, q3, rfl, rfl, rfl, h3, hr3⟩ := trodAll_cons hr2
  obtain ⟨rfl, rfl, rfl⟩ := trodAll_nil hr3
  have hargs' : args = #[v0, v1, v2, v3] := by cases args; simp_all
  subst hargs'
  obtain ⟨rfl, rfl⟩ := trodVars_none hV
  have lt0 : ∀ x ∈ p0, x.block < V.heap.size := by obtain ⟨m, hm⟩ := h0; exact DataW.trod_lt m _ _ _ hm
  have lt1 : ∀ x ∈ p1, x.block < V.heap.size := by obtain ⟨m, hm⟩ := h1; exact DataW.trod_lt m _ _ _ hm
  have lt2 : ∀ x ∈ p2, x.block < V.heap.size := by obtain ⟨m, hm⟩ := h2; exact DataW.trod_lt m _ _ _ hm
  have lt3 : ∀ x ∈ p3, x.block < V.heap.size := by obtain ⟨m, hm⟩ := h3; exact DataW.trod_lt m _ _ _ hm
  obtain ⟨a0, len0, cap0, rfl⟩ := okWide_slice Try.underlying22 (hval 0 22 v0 rfl rfl)
  obtain ⟨a1, len1, cap1, rfl⟩ := okWide_slice Try.underlying22 (hval 1 22 v1 rfl rfl)
  obtain ⟨a2, len2, cap2, rfl⟩ := okWide_slice Try.underlying44 (hval 2 44 v2 rfl rfl)
  obtain ⟨a3, len3, cap3, rfl⟩ := okWide_slice Try.underlying44 (hval 3 44 v3 rfl rfl)
  obtain ⟨L0, hL0⟩ : ∃ L : List Rw, RdR V (.slice a0 len0 cap0) L := by
    obtain ⟨f0, hf0⟩ := h0
    have hf0' : DataW.trod enc Try.prog V 0 (fun _ => true) true f0 22 [.slice a0 len0 cap0] = some (d0, p0) := by simpa [Value.cells] using hf0
    exact rows_of_trod hf0'
  obtain ⟨L1, hL1⟩ : ∃ L : List Rw, RdR V (.slice a1 len1 cap1) L := by
    obtain ⟨f0, hf0⟩ := h1
    have hf0' : DataW.trod enc Try.prog V 0 (fun _ => true) true f0 22 [.slice a1 len1 cap1] = some (d1, p1) := by simpa [Value.cells] using hf0
    exact rows_of_trod hf0'
  obtain ⟨L2, hL2⟩ : ∃ L : List Int, RdI V (.slice a2 len2 cap2) L := by
    obtain ⟨f0, hf0⟩ := h2
    have hf0' : DataW.trod enc Try.prog V 0 (fun _ => true) true f0 44 [.slice a2 len2 cap2] = some (d2, p2) := by simpa [Value.cells] using hf0
    exact ints_of_trod hf0'
  obtain ⟨L3, hL3⟩ : ∃ L : List Int, RdI V (.slice a3 len3 cap3) L := by
    obtain ⟨f0, hf0⟩ := h3
    have hf0' : DataW.trod enc Try.prog V 0 (fun _ => true) true f0 44 [.slice a3 len3 cap3] = some (d3, p3) := by simpa [Value.cells] using hf0
    exact ints_of_trod hf0'
  refine (own_walk V hL0 hL1 hL2 hL3).mono fun e V' ⟨he, hf⟩ => ?_
  subst he
  have bel : Below V.heap.size V V' := hf.below (Nat.le_refl _) (fun _ h => h.elim)
  exact ⟨_, rfl, _, _, _, [], _, [], hW', trodAll_mk1 (shut_bool Try.underlying4 _), trodAll_mk4 (Below.trod ownLaid (by kernel_rfl) (of_decide_eq_true (by kernel_rfl)) h0 bel lt0) (Below.trod ownLaid (by kernel_rfl) (of_decide_eq_true (by kernel_rfl)) h1 bel lt1) (Below.trod ownLaid (by kernel_rfl) (of_decide_eq_true (by kernel_rfl)) h2 bel lt2) (Below.trod ownLaid (by kernel_rfl) (of_decide_eq_true (by kernel_rfl)) h3 bel lt3), rfl, bel.frame _, fun h => by cases h⟩

theorem own_over : Rows.mergeOwnRow.holds Try.pinned (OpenSpec.ofChange Rows.mergeOwnSpec) :=
  OpenClaim.holds_of_wide 5 Try.f5 rfl rfl rfl rfl rfl rfl rfl ⟨rfl, rfl, rfl, rfl, rfl⟩ rfl rfl rfl rfl rfl (by kernel_rfl) Try.func5 (by kernel_rfl)
    (of_decide_eq_true (by kernel_rfl)) (by unfold Func.isWrapper; first | (rw [if_pos (by decide +kernel)]; kernel_rfl) | (rw [if_neg (by decide +kernel)]; exact ⟨rfl, rfl⟩))
    (fun os started H enc _ => own_lifted os started H enc)
end Go.Proofs.Ytodhamgcoflhpaa.M
namespace Go.Proofs.Ytodhamgcoflhpaa
theorem mergeOwn_holds : Rows.MergeOwnSaid := M.own_over
#print axioms mergeOwn_holds
end Go.Proofs.Ytodhamgcoflhpaa
