/- oper: Mark: the walk itself. -/
import Derived.Test.YtbhhpkbiflolfaaVMark
namespace Go.Proofs.Ytbhhpkbiflolfaa.V
open Go.RowKit Go.Maps
open M (Cl cmpC cmC cmpC_zero cmpC_flip vC)

theorem least_rise {ms : List Int} (h : OkM ms) (s t : Int) : leastL ms ≤ leastL (riseS ms s t) := by
  unfold riseS
  split
  · rename_i hb
    have hl : 1 ≤ (riseL ms s.toNat t).length := by rw [riseL_length]; exact h.one
    have hm := leastL_mem hl
    rcases List.mem_or_eq_of_mem_set hm with hm | hm
    · exact leastL_le hm
    · have hs : hasB ms.length s = true := by simp only [Bool.and_eq_true] at hb; exact hb.1
      have hs2 : 0 ≤ s ∧ s < (ms.length : Int) := by unfold hasB at hs; exact of_decide_eq_true hs
      have hx : ms.getD s.toNat 0 ∈ ms := by
        have : s.toNat < ms.length := by omega
        have e : ms.getD s.toNat 0 = ms[s.toNat] := by simp [List.getD, this]
        rw [e]; exact List.getElem_mem this
      have h1 := leastL_le hx
      rw [hm]
      omega
  · exact Int.le_refl _
theorem shK_mono {vs : List Vw} {m m' : Int} (h : m ≤ m') {c : Cl} (hc : shK vs m' c = false) : shK vs m c = false := by
  unfold shK at *
  have := of_decide_eq_false hc
  exact decide_eq_false (by omega)
/-- What goes, and what stays, behind a mark. -/
def goneL (vs : List Vw) (m : Int) (L : List Cl) : List Cl := L.filter (shK vs m)
def leftL (vs : List Vw) (m : Int) (L : List Cl) : List Cl := L.filter (fun c => !shK vs m c)
theorem gone_none {vs : List Vw} {m : Int} {L : List Cl} (h : ∀ c ∈ L, shK vs m c = false) : goneL vs m L = [] ∧ leftL vs m L = L := by
  unfold goneL leftL
  refine ⟨List.filter_eq_nil_iff.2 (fun c hc => by rw [h c hc]; decide), List.filter_eq_self.2 (fun c hc => by rw [h c hc]; rfl)⟩
theorem riseR_cases (ms : List Int) (s t : Int) : ((riseR ms s t).2 ≠ 0 ∧ (riseR ms s t).1 = false ∧ riseS ms s t = ms) ∨ ((riseR ms s t).2 = 0 ∧ (riseR ms s t).1 = decide (leastL ms < leastL (riseS ms s t))) := by
  unfold riseR riseS
  rcases h1 : hasB ms.length s with _ | _
  · left; simp
  · rcases h2 : isT t with _ | _
    · left; simp
    · right; simp
theorem Op.ne2 {w : World} {x : Ox} {vs : List Vw} {ms : List Int} {L : List Cl} (h : Op w x vs ms L) : x.B ≠ x.gm ∧ x.Bm ≠ x.gm ∧ x.gv ≠ x.gm := by
  obtain ⟨rest, hr⟩ := h.row
  have h1 := h.cell
  have h2 := h.marks.cell
  have h3 : w.heap[x.gm]? = some (.cells (iv ms).toArray 2 (0, 0)) := h.marks.row
  have h4 : w.heap[x.gv]? = some (.cells (vc vs ++ rest).toArray 49 (0, 0)) := hr
  refine ⟨?_, ?_, ?_⟩
  · intro e; rw [e, h3] at h1; simp at h1
  · intro e; rw [e, h3] at h2; simp at h2
  · intro e; rw [e, h3] at h4; simp at h4
/-- The shell behind a mark. -/
theorem Op.rise {w w' : World} {x : Ox} {vs : List Vw} {ms ms' : List Int} {L : List Cl} (h : Op w x vs ms L) (hk : Km w' x.Bm x.gm ms') (hf : Fr w w' (fun b => b = x.gm)) : Os w' x vs ms' ∧ Mc w' x.mb L := by
  obtain ⟨n1, n2, n3⟩ := h.ne2
  obtain ⟨rest, hr⟩ := h.row
  exact ⟨⟨by rw [hf.block _ (lt_of_block h.cell) n1]; exact h.cell, ⟨rest, hr.fr hf n3⟩, hk, h.okv, h.one, h.four⟩, h.map.fr hf (fun e => h.ne.2.2.1 e.symm)⟩
theorem Os.op {w : World} {x : Ox} {vs : List Vw} {ms : List Int} {L : List Cl} (h : Os w x vs ms) (hm : Mc w x.mb L) (hr : Ri L) (hl : ∀ c ∈ L, OkK vs c ∧ shK vs (leastL ms) c = false) : Op w x vs ms L := ⟨h.cell, h.row, h.marks, hm, h.okv, h.one, h.four, hr, hl⟩
theorem ranges_fr {w w' : World} {S : Nat → Prop} {b r n : Nat} {D : DataW Unit} {left : Lit → Bool} {cnt : Nat} (h : w.ranges Try.prog 64 unitElem b r n D left cnt) (hf : Fr w w' S) (hb : ¬ S b) (hr : ¬ S r) : w'.ranges Try.prog 64 unitElem b r n D left cnt := by
  have h1 := h.owns.lt
  have h2 := h.lt
  obtain ⟨es, clock, since, seen, c0, hbl, F, hs, hD, hrl, rest⟩ := h
  exact ⟨es, clock, since, seen, c0, (hf.block b h1 hb).trans hbl, F, hs, hD, (hf.block r h2 hr).trans hrl, rest⟩
theorem ranges_iter {w : World} {b r n : Nat} {D : DataW Unit} {left : Lit → Bool} {cnt : Nat} (h : w.ranges Try.prog 64 unitElem b r n D left cnt) : (∃ es cl, w.heap[b]? = some (.map es cl)) ∧ ∃ m s e c, w.heap[r]? = some (.mapIter m s e c) := by
  obtain ⟨es, clock, since, seen, c0, hbl, F, hs, hD, hrl, rest⟩ := h
  exact ⟨⟨_, _, hbl⟩, ⟨_, _, _, _, hrl⟩⟩
/-- The shell's blocks are rows, not maps, nor what ranges over one. -/
theorem Os.ne {w : World} {x : Ox} {vs : List Vw} {ms : List Int} (h : Os w x vs ms) {k : Nat} (hk : ∀ cs t z, w.heap[k]? ≠ some (.cells cs t z)) : x.B ≠ k ∧ x.Bm ≠ k ∧ x.gm ≠ k ∧ x.gv ≠ k := by
  obtain ⟨rest, hr⟩ := h.row
  have h1 := h.cell
  have h2 := h.marks.cell
  have h3 : w.heap[x.gm]? = some (.cells (iv ms).toArray 2 (0, 0)) := h.marks.row
  have h4 : w.heap[x.gv]? = some (.cells (vc vs ++ rest).toArray 49 (0, 0)) := hr
  refine ⟨?_, ?_, ?_, ?_⟩
  · rintro rfl; exact hk _ _ _ h1
  · rintro rfl; exact hk _ _ _ h2
  · rintro rfl; exact hk _ _ _ h3
  · rintro rfl; exact hk _ _ _ h4
theorem Kw.ne {b : Nat} {w : World} {v : Value} {L : List Cl} (h : Kw b w v L) {k : Nat} (hk : ∀ cs t z, w.heap[k]? ≠ some (.cells cs t z)) : ∀ j, v.ownBlock = some j → ¬ j = k := by
  intro j hj e
  subst e
  rcases h.2 with ⟨rfl, _⟩ | ⟨g, cap, cur, rfl, _, hg, _⟩
  · simp [Value.ownBlock] at hj
  · simp [Value.ownBlock] at hj
    subst hj
    exact hk _ _ _ hg
/-- The shell's rows are of other kinds than cells'. -/
theorem Os.ne_cells {w : World} {x : Ox} {vs : List Vw} {ms : List Int} (h : Os w x vs ms) {k : Nat} {cs : Array Value} {z : Nat × Nat} (hk : w.heap[k]? = some (.cells cs 64 z)) : x.B ≠ k ∧ x.Bm ≠ k ∧ x.gm ≠ k ∧ x.gv ≠ k := by
  obtain ⟨rest, hr⟩ := h.row
  have h1 := h.cell
  have h2 := h.marks.cell
  have h3 : w.heap[x.gm]? = some (.cells (iv ms).toArray 2 (0, 0)) := h.marks.row
  have h4 : w.heap[x.gv]? = some (.cells (vc vs ++ rest).toArray 49 (0, 0)) := hr
  refine ⟨?_, ?_, ?_, ?_⟩
  · rintro rfl; rw [hk] at h1; simp at h1
  · rintro rfl; rw [hk] at h2; simp at h2
  · rintro rfl; rw [hk] at h3; simp at h3
  · rintro rfl; rw [hk] at h4; simp at h4
theorem Kw.cells {b : Nat} {w : World} {v : Value} {L : List Cl} (h : Kw b w v L) {k : Nat} (hk : v.ownBlock = some k) : b ≤ k ∧ ∃ cs, w.heap[k]? = some (.cells cs 64 (0, 0)) := by
  rcases h.2 with ⟨rfl, _⟩ | ⟨g, cap, cur, rfl, hb, hg, _⟩
  · simp [Value.ownBlock] at hk
  · simp [Value.ownBlock] at hk
    subst hk
    exact ⟨hb, cur, hg⟩
theorem fr_own {w w' : World} {v : Value} (h : w.grownBy w' v.ownBlock) : Fr w w' (fun k => v.ownBlock = some k) := ⟨h.os, h.tape, h.output, h.size, fun i hi hn => h.block i hi (fun e => hn e.symm)⟩
/-- What a round of Mark's range has: b the world ahead's size. -/
structure Mr (w : World) (x : Ox) (vs : List Vw) (ms : List Int) (L : List Cl) (r cnt : Nat) (v : Value) (wx : World) : Prop where
  ex : ∃ D left G, wx.ranges Try.prog 64 unitElem x.mb r L.length D left cnt ∧ Rg (shK vs (leastL ms)) L D left G ∧ Kw w.heap.size wx v G
  os : Os wx x vs ms
  fr : Fr w wx (fun b => b = x.gm ∨ b = x.mb)
  rb : w.heap.size ≤ r
end Go.Proofs.Ytbhhpkbiflolfaa.V
