/- MergeOwn: literals of lists, stores into rows of one's own. -/
import Derived.Test.YtilgkfpicdmkkaaMRise
import Derived.Test.YtilgkfpicdmkkaaMParts0
import Derived.Test.YtilgkfpicdmkkaaMKnown
namespace Go.Proofs.Ytilgkfpicdmkkaa.M
open Go.RowKit

theorem rows_litb {w V : World} {us : List Value} {ls : List (List Rw)} (most : Int) (hm : most.toNat ≤ 1000) (hl : us.length = ls.length) (hb : us.length ≤ 1000) (hf : Fr w V (fun _ => False)) (h : ∀ p (hp : p < us.length) (hq : p < ls.length), V.ownsRow w.heap.size 54 7 us[p] ls[p].length (rc ls[p])) (ht : tot ls ≤ 1000000000) :
    Calls Try.prog 10 #[.int .i64 most, .slice (some ⟨V.heap.size, 0, none⟩) us.length us.length] (V.alloc (.cells us.toArray 22)) fun e w' => ∃ v, e = .returned v ∧ ∃ l, M.W.Ro7 V w' v l ∧ l.length ≤ 1000 := by
  have hs := lit_sp hl hb hf h
  obtain ⟨sv, hat⟩ := hs.at (by omega)
  refine (M.W.rows_any most _ hat ht).mono ?_
  rintro e w' ⟨v, rfl, hr⟩
  exact ⟨v, rfl, _, Ro7.behind hr (alloc_fr V _ _), by rw [List.length_take]; omega⟩
theorem rows2b {w V : World} {u1 u2 : Value} {l1 l2 : List Rw} (h1 : M.W.Ro7 w V u1 l1) (h2 : M.W.Ro7 w V u2 l2) (ht : l1.length + l2.length ≤ 1000000) :
    Calls Try.prog 10 #[.int .i64 1000, .slice (some ⟨V.heap.size, 0, none⟩) 2 2] (V.alloc (.cells #[u1, u2] 22)) fun e w' => ∃ v, e = .returned v ∧ ∃ l, M.W.Ro7 V w' v l ∧ l.length ≤ 1000 :=
  rows_litb (us := [u1, u2]) (ls := [l1, l2]) 1000 (by decide) rfl (by simp) h1.2 (fun p hp hq => by
    match p, hp with
    | 0, _ => exact h1.1
    | 1, _ => exact h2.1) (by simp [tot]; omega)
theorem rows1b {w V : World} {u1 : Value} {l1 : List Rw} (h1 : M.W.Ro7 w V u1 l1) (ht : l1.length ≤ 1000000) :
    Calls Try.prog 10 #[.int .i64 1000, .slice (some ⟨V.heap.size, 0, none⟩) 1 1] (V.alloc (.cells #[u1] 22)) fun e w' => ∃ v, e = .returned v ∧ ∃ l, M.W.Ro7 V w' v l ∧ l.length ≤ 1000 :=
  rows_litb (us := [u1]) (ls := [l1]) 1000 (by decide) rfl (by simp) h1.2 (fun p hp hq => by
    match p, hp with
    | 0, _ => exact h1.1) (by simp [tot]; omega)
theorem liti_own (V : World) (us : List Value) (h : us.length ≤ 1000) : (V.alloc (.cells us.toArray 36)).ownsRow V.heap.size 36 1 (.slice (some ⟨V.heap.size, 0, none⟩) us.length us.length) us.length us := by
  have := World.ownsRow_lit (size := 1) (e := 36) V us.toArray us.length (Nat.le_refl _) (by unfold maxLen; omega) (by simp)
  simpa using this
theorem lists_lit {w V : World} {us : List Value} {ls : List (List Int)} (hl : us.length = ls.length) (hb : us.length ≤ 1000) (hf : Fr w V (fun _ => False)) (h : ∀ p (hp : p < us.length) (hq : p < ls.length), V.ownsRow w.heap.size 3 1 us[p] ls[p].length (I.iv ls[p])) (ht : tot ls ≤ 1000000000) :
    Calls Try.prog 16 #[.slice (some ⟨V.heap.size, 0, none⟩) us.length us.length] (V.alloc (.cells us.toArray 36)) fun e w' => ∃ v, e = .returned v ∧ I.Eo V w' v (I.ded (merged I.cmE ls)) := by
  have hs : SpJ w (V.alloc (.cells us.toArray 36)) (.slice (some ⟨V.heap.size, 0, none⟩) us.length us.length) us ls := ⟨own_mono (liti_own V us hb) hf.size, hl, fun p hp hq => own_fr (h p hp hq) (alloc_fr V _ _) (fun _ _ h => h), hf.alloc _⟩
  obtain ⟨sv, hat⟩ := hs.at (by omega)
  refine (I.lists_any _ hat ht).mono ?_
  rintro e w' ⟨v, rfl, hr⟩
  exact ⟨v, rfl, Eo.behind hr (alloc_fr V _ _)⟩
theorem lists2 {w V : World} {u1 u2 : Value} {l1 l2 : List Int} (h1 : I.Eo w V u1 l1) (h2 : I.Eo w V u2 l2) (ht : l1.length + l2.length ≤ 1000000) :
    Calls Try.prog 16 #[.slice (some ⟨V.heap.size, 0, none⟩) 2 2] (V.alloc (.cells #[u1, u2] 36)) fun e w' => ∃ v, e = .returned v ∧ ∃ l, I.Eo V w' v l ∧ l.length ≤ 1000000 := by
  refine (lists_lit (us := [u1, u2]) (ls := [l1, l2]) rfl (by simp) h1.2 (fun p hp hq => by
    match p, hp with
    | 0, _ => exact h1.1
    | 1, _ => exact h2.1) (by simp [tot]; omega)).mono ?_
  rintro e w' ⟨v, rfl, hr⟩
  refine ⟨v, rfl, _, hr, ?_⟩
  have a1 := I.ded_len (merged I.cmE [l1, l2])
  have a2 := merged_len I.cmE_cm [l1, l2]
  simp only [tot, List.map_cons, List.map_nil, List.sum_cons, List.sum_nil] at a2
  omega
theorem lists1 {w V : World} {u1 : Value} {l1 : List Int} (h1 : I.Eo w V u1 l1) (ht : l1.length ≤ 1000000) :
    Calls Try.prog 16 #[.slice (some ⟨V.heap.size, 0, none⟩) 1 1] (V.alloc (.cells #[u1] 36)) fun e w' => ∃ v, e = .returned v ∧ ∃ l, I.Eo V w' v l ∧ l.length ≤ 1000000 := by
  refine (lists_lit (us := [u1]) (ls := [l1]) rfl (by simp) h1.2 (fun p hp hq => by
    match p, hp with
    | 0, _ => exact h1.1) (by simp [tot]; omega)).mono ?_
  rintro e w' ⟨v, rfl, hr⟩
  refine ⟨v, rfl, _, hr, ?_⟩
  have a1 := I.ded_len (merged I.cmE [l1])
  have a2 := merged_len I.cmE_cm [l1]
  simp only [tot, List.map_cons, List.map_nil, List.sum_cons, List.sum_nil] at a2
  omega
theorem RdZ.ro {w V : World} {v : Value} {L : List Rw} (h : M.W.Ro7 w V v L) : RdZ V v L := by
  rcases own_cases h.1 with ⟨e, e2⟩ | ⟨g, c, e, _⟩
  · exact Or.inl ⟨e, e2⟩
  · have h2 := h.1
    rw [e] at h2
    refine Or.inr ⟨g, 0, c, e, fun i hi => ?_⟩
    rw [Nat.zero_add]
    exact own_el h2 i hi
theorem RzI.ro {w V : World} {v : Value} {L : List Int} (h : I.Eo w V v L) : RzI V v L := by
  rcases owni_cases h.1 with ⟨e, e2⟩ | ⟨g, c, e, _⟩
  · exact Or.inl ⟨e, e2⟩
  · have h2 := h.1
    rw [e] at h2
    refine Or.inr ⟨g, 0, c, e, fun i hi => ?_⟩
    rw [Nat.zero_add]
    exact owni_el h2 i hi
theorem empty_ro (V : World) : M.W.Ro7 V (V.alloc (.cells #[] 54)) (.slice (some ⟨V.heap.size, 0, none⟩) 0 0) [] := by
  have h := World.ownsRow_lit (size := 7) (e := 54) V #[] 0 (Nat.le_refl _) (by unfold maxLen; omega) (by simp)
  exact ⟨by simp at h; exact h, alloc_fr V _ _⟩
theorem empty_eo (V : World) : I.Eo V (V.alloc (.cells #[] 3)) (.slice (some ⟨V.heap.size, 0, none⟩) 0 0) [] := by
  have h := World.ownsRow_lit (size := 1) (e := 3) V #[] 0 (Nat.le_refl _) (by unfold maxLen; omega) (by simp)
  exact ⟨by simp at h; exact h, alloc_fr V _ _⟩
/-- A cell of an owned row of whatever values, written. -/
theorem own_setN {w : World} {base : Nat} {e : TypeId} {size : Nat} {v : Value} {n : Nat} {vs : List Value} (h : w.ownsRow base e size v n vs) {g : Nat} (hg : v.ownBlock = some g) (j : Nat) (u : Value) : (w.setCell ⟨g, j, none⟩ u).ownsRow base e size v n (vs.set j u) := by
  have hl := h.1
  rcases h.2 with ⟨rfl, _⟩ | ⟨g', cap, cur, rfl, hb, hh, hn, hm, hs, ht⟩
  · simp [Value.ownBlock] at hg
  · simp [Value.ownBlock] at hg
    subst hg
    have h1 := heap_setCell_same w g' j cur e u hh
    refine ⟨by rw [List.length_set]; exact hl, Or.inr ⟨g', cap, _, rfl, hb, h1, hn, hm, by simpa using hs, ?_⟩⟩
    rw [Array.toList_setIfInBounds, List.take_set, ht]
theorem own_freeN {w : World} {base : Nat} {e : TypeId} {size g n cap : Nat} {xs : List Value} (h : w.ownsRow base e size (.slice (some ⟨g, 0, none⟩) n cap) n xs) : (∀ o, w.frozen? ⟨g, o, none⟩ = false) ∧ g < w.heap.size := by
  rcases h.2 with ⟨h0, _⟩ | ⟨g', cap', cur, e, hb, hg, _⟩
  · simp at h0
  · simp only [Value.slice.injEq, Option.some.injEq, Addr.mk.injEq, and_true, true_and] at e
    obtain ⟨rfl, rfl⟩ := e
    exact ⟨fun o => by simp [World.frozen?, hg], lt_of_block hg⟩
theorem own_atN {w : World} {base : Nat} {e : TypeId} {size g n cap : Nat} {xs : List Value} (h : w.ownsRow base e size (.slice (some ⟨g, 0, none⟩) n cap) n xs) (j : Nat) (hj : j < n * size) : ∃ u, w.cell? ⟨g, j, none⟩ = some u := by
  have hl : j < xs.length := by rw [h.1]; exact hj
  have := h.cells (g := g) rfl j xs[j] (by simp [hl])
  rw [Addr.add_lit, Nat.zero_add] at this
  exact ⟨_, this⟩
theorem own_someN {w : World} {base : Nat} {e : TypeId} {size : Nat} {v : Value} {n : Nat} {xs : List Value} (h : w.ownsRow base e size v n xs) (hn : 0 < n) : ∃ g c, v = .slice (some ⟨g, 0, none⟩) n c := by
  rcases h.2 with ⟨_, h0⟩ | ⟨g, c, cur, e, _⟩
  · omega
  · exact ⟨g, c, e⟩
/-- Blocks from here to there. -/
def Iv (a b : Nat) (k : Nat) : Prop := a ≤ k ∧ k < b
end Go.Proofs.Ytilgkfpicdmkkaa.M
