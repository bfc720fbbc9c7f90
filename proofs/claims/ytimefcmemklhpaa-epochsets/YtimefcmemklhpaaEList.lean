/- set.list: the epochs of a set, in whatever order. -/
import Derived.Test.YtimefcmemklhpaaEMap
namespace Go.Proofs.Ytimefcmemklhpaa.E
open Go.RowKit Go.Maps

set_option maxHeartbeats 1000000 in
theorem list_some {w : World} {b : Nat} {l : List Int} (h : Ms w b l) (hr : Ri l) (hlen : l.length ≤ 1099511627776) :
    Calls Try.prog 54 #[.map (some b)] w fun e w' => ∃ (v : Value) (ss : List Int), e = .returned v ∧ ss.Perm l ∧ w'.ownsRow w.heap.size 3 1 v ss.length (ss.map encZ) ∧ (v = .slice none 0 0 ↔ ss = []) ∧ Below w.heap.size w w' := by
  obtain ⟨D0, hown, hsz, hperm⟩ := h.perm hr
  refine (callsIn_wide (n := 6)).1 ?_
  have hbl := hown.lt
  have hseq : SeqGives Fence.wide 3 Try.prog 83 #[.pointer (some ⟨w.heap.size, 0, none⟩)] encZ (fun ss => ss.Perm (intKeys D0)) (Maps.size D0) (w.alloc (.cells #[.map (some b)] 61)) :=
    AnyZI.keys_gives (ρ := keysL_ren) { keysL with } Fence.wide _ trivial rfl (by omega) w.heap.size b _ D0 _ (by simp) (by simp) (by
      obtain ⟨es, clock, hb, Ft, hs, hD⟩ := hown
      exact ⟨es, clock, (Below.heap_alloc _ _ b hbl).trans hb, Ft, hs, hD⟩)
  have cK : ∀ mb W, CallsIn Fence.wide 5 Try.prog 70 #[.map mb] W fun e w' => e = .returned (.func (.func 83) #[] #[.pointer (some ⟨W.heap.size, 0, none⟩)]) ∧ w' = W.alloc (.cells #[.map mb] 61) := fun mb W => AnyZI.keys_in keysL Fence.wide 5 trivial rfl mb W
  have cS := AnyZI.collect_in collectL Fence.wide 5 trivial trivial rfl (by omega) 83 #[.pointer (some ⟨w.heap.size, 0, none⟩)] trivial (enters_of Try.func83 (by kernel_rfl) rfl) _ _ (by rw [hsz]; unfold maxLen; omega) (by rw [hsz]; omega) _ hseq
  change CallsIn _ _ Try.prog 69 _ _ _ at cS
  have hfK : Fence.wide.fn 70 := trivial
  have hfS : Fence.wide.fn 69 := trivial
  refine callsIn_of_wp Try.func54 rfl trivial ?_ rfl
  simp only [Try.ntmps54, List.size_toArray, List.length_cons, List.length_nil, Nat.reduceAdd, Nat.reduceSub, Array.replicate_succ, Array.replicate_zero, List.push_toArray, List.append_toArray, List.nil_append, List.cons_append]
  gi_wp2_with (first
    | (gi_at_call 70; refine (cK _ _).mono ?_; rintro e w' ⟨rfl, rfl⟩)
    | (gi_at_call 69; refine cS.mono ?_; rintro e w' ⟨v, ss, rfl, hS, hrow, hnil, hb⟩))
  go_ret
  exact ⟨v, ss, rfl, hS.trans hperm.symm, own_mono hrow (by simp), hnil, ((Below.refl _ w).alloc (Nat.le_refl _) _).trans (hb.mono (by simp))⟩
set_option maxHeartbeats 1000000 in
theorem list_none (w : World) :
    Calls Try.prog 54 #[.map none] w fun e w' => e = .returned (.slice none 0 0) ∧ Below w.heap.size w w' := by
  refine (callsIn_wide (n := 6)).1 ?_
  have hseq : SeqGives Fence.wide 3 Try.prog 83 #[.pointer (some ⟨w.heap.size, 0, none⟩)] encZ (fun ss : List Int => ss = []) 0 (w.alloc (.cells #[.map none] 61)) :=
    AnyZI.keys_gives_nil (ρ := keysL_ren) { keysL with } Fence.wide _ trivial rfl w.heap.size _ (by simp) (by simp)
  have cK : ∀ mb W, CallsIn Fence.wide 5 Try.prog 70 #[.map mb] W fun e w' => e = .returned (.func (.func 83) #[] #[.pointer (some ⟨W.heap.size, 0, none⟩)]) ∧ w' = W.alloc (.cells #[.map mb] 61) := fun mb W => AnyZI.keys_in keysL Fence.wide 5 trivial rfl mb W
  have cS := AnyZI.collect_in collectL Fence.wide 5 trivial trivial rfl (by omega) 83 #[.pointer (some ⟨w.heap.size, 0, none⟩)] trivial (enters_of Try.func83 (by kernel_rfl) rfl) _ 0 (Nat.zero_le _) (by omega) _ hseq
  change CallsIn _ _ Try.prog 69 _ _ _ at cS
  have hfK : Fence.wide.fn 70 := trivial
  have hfS : Fence.wide.fn 69 := trivial
  refine callsIn_of_wp Try.func54 rfl trivial ?_ rfl
  simp only [Try.ntmps54, List.size_toArray, List.length_cons, List.length_nil, Nat.reduceAdd, Nat.reduceSub, Array.replicate_succ, Array.replicate_zero, List.push_toArray, List.append_toArray, List.nil_append, List.cons_append]
  gi_wp2_with (first
    | (gi_at_call 70; refine (cK _ _).mono ?_; rintro e w' ⟨rfl, rfl⟩)
    | (gi_at_call 69; refine cS.mono ?_; rintro e w' ⟨v, ss, rfl, rfl, hrow, hnil, hb⟩; obtain rfl : v = .slice none 0 0 := hnil.2 rfl))
  go_ret
  exact ⟨rfl, ((Below.refl _ w).alloc (Nat.le_refl _) _).trans (hb.mono (by simp))⟩
/-- Numbers as values. -/
def zv (l : List Int) : List Value := l.map encZ
theorem zv_len (l : List Int) : (zv l).length = l.length := by simp [zv]
theorem zv_app (a b : List Int) : zv (a ++ b) = zv a ++ zv b := by simp [zv]
/-- A list of numbers of the call's own, from block base on. -/
def OwI (w : World) (base : Nat) (v : Value) (l : List Int) : Prop := w.ownsRow base 3 1 v l.length (zv l)
theorem OwI.fr {w w' : World} {S : Nat → Prop} {base : Nat} {v : Value} {l : List Int} (h : OwI w base v l) (hf : Fr w w' S) (hv : ∀ k, v.ownBlock = some k → ¬ S k) : OwI w' base v l := own_fr h hf hv
theorem OwI.mono {w : World} {base base' : Nat} {v : Value} {l : List Int} (h : OwI w base v l) (hb : base' ≤ base) : OwI w base' v l := own_mono h hb
theorem list_any {w : World} {m : Option Nat} {l : List Int} (h : Mo w m l) (hr : Ri l) (hlen : l.length ≤ 1099511627776) :
    Calls Try.prog 54 #[.map m] w fun e w' => ∃ (v : Value) (ss : List Int), e = .returned v ∧ ss.Perm l ∧ OwI w' w.heap.size v ss ∧ Fr w w' (fun _ => False) := by
  cases m with
  | some b =>
    refine (list_some h hr hlen).mono fun e w' ⟨v, ss, h1, h2, h3, _, h5⟩ => ?_
    exact ⟨v, ss, h1, h2, h3, Fr.ofBelow h5⟩
  | none =>
    have h' : l = [] := h
    subst h'
    refine (list_none w).mono fun e w' ⟨h1, h5⟩ => ?_
    exact ⟨_, [], h1, List.Perm.refl _, ⟨rfl, Or.inl ⟨rfl, rfl⟩⟩, Fr.ofBelow h5⟩
end Go.Proofs.Ytimefcmemklhpaa.E
