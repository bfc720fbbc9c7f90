/- A set of epochs as a map: has, add, list; len, delete, clear. -/
import Derived.Test.YtimefcmemklhpaaEPure
import Derived.Test.YtimefcmemklhpaaMem
import Derived.Test.YtimefcmemklhpaaRows
import Derived.Maps.OwnSet
import Derived.Maps.RangeWalk
import Derived.Shelf.SlIterI.Nil
import Derived.Shelf.SlIterI.Collect
import Derived.Shelf.SlGeneric
import Derived.Shelf.AbstractIn
import Derived.Ground.GgzProg
import Derived.WalkKit
namespace Go.Proofs.Ytimefcmemklhpaa.E
open Go.RowKit Go.Maps

theorem hid {p : Prop} (h : p) : Hid p := h
theorem law : Keyed Try.prog 3 := int_keyed Try.underlying3
theorem zeroU (w : World) : (zeroValue 64).run Try.prog w = .ok (.agg #[]) w := by kernel_rfl
theorem keyI {e : Int} (h : (Lit.int .i64 e).wf = true) : keyOf Try.prog 3 (.int .i64 e) = some (.int .i64 e) := keyOf_int_mk Try.underlying3 h

/-- Block b is a map whose keys are the list's. -/
def Ms (w : World) (b : Nat) (l : List Int) : Prop := ∃ D : DataW Unit, w.ownsMap Try.prog 3 unitElem b l.length D ∧ (∀ x, Maps.has D (.int .i64 x) = hasB l x) ∧ Maps.size D = l.length
theorem Ms.lt {w : World} {b : Nat} {l : List Int} (h : Ms w b l) : b < w.heap.size := by obtain ⟨D, h, _⟩ := h; exact h.lt
theorem Ms.at {w w' : World} {b : Nat} {l : List Int} (h : Ms w b l) (hb : w'.heap[b]? = w.heap[b]?) : Ms w' b l := by
  obtain ⟨D, ⟨es, c, h1, r⟩, h2, h3⟩ := h
  exact ⟨D, ⟨es, c, hb.trans h1, r⟩, h2, h3⟩
theorem Ms.fr {w w' : World} {S : Nat → Prop} {b : Nat} {l : List Int} (h : Ms w b l) (hf : Fr w w' S) (hS : ¬ S b) : Ms w' b l := h.at (hf.block b h.lt hS)
theorem Ms.new (w : World) : Ms (w.alloc (.map #[] 0)) w.heap.size [] := ⟨.map [], World.ownsMap_made w _ _ _, fun x => by simp [Maps.has, hasB], rfl⟩
theorem tight {w : World} {b n : Nat} {D : DataW Unit} (h : w.ownsMap Try.prog 3 unitElem b n D) : w.ownsMap Try.prog 3 unitElem b (Maps.size D) D := by
  obtain ⟨es, c, h1, h2, h3, rfl⟩ := h
  exact ⟨es, c, h1, h2, by simp [Maps.size, length_sorted], rfl⟩
theorem Ms.perm {w : World} {b : Nat} {l : List Int} (h : Ms w b l) (hr : Ri l) : ∃ D : DataW Unit, w.ownsMap Try.prog 3 unitElem b l.length D ∧ Maps.size D = l.length ∧ l.Perm (intKeys D) := by
  obtain ⟨D, h1, h2, h3⟩ := h
  refine ⟨D, h1, h3, ?_⟩
  have hc : CollectedI D (fun _ => false) l := ⟨ri_nodup hr, fun x => by rw [h2]; simp [hasB]⟩
  exact hc.perm h1 law Try.underlying3 (fun _ => rfl)
/-- What a map holds behind a store. -/
theorem Ms.put {w : World} {b : Nat} {l : List Int} (h : Ms w b l) (hr : Ri l) (hlen : l.length < maxLen) {e : Int} (hw : (Lit.int .i64 e).wf = true) :
    ∃ w', (Instr.mapUpdate 61 (.map (some b)) (.int .i64 e) (.agg #[])).run Try.prog w = .ok () w' ∧ Ms w' b (ins e l) ∧ w.grownBy w' (some b) := by
  obtain ⟨D, h1, h2, h3⟩ := h
  have ht := h1.tidy law
  obtain ⟨w', hrun, hown, hg⟩ := h1.update law Try.underlying61 hlen (keyI hw) unitElem_mk
  have hsz : Maps.size (D.put (.int .i64 e) (.agg [])) = (ins e l).length := by
    rw [size_put ht, h2, ins_len hr, h3]
    by_cases hm : e ∈ l <;> simp [hasB, hm]
  refine ⟨w', hrun, ⟨_, ?_, fun x => ?_, hsz⟩, hg⟩
  · rw [← hsz]; exact tight hown
  · by_cases hx : x = e
    · subst hx
      rw [has_put_same (k := .int .i64 x) h1.isMap trivial]
      exact (hasB_true.2 (mem_ins.2 (Or.inl rfl))).symm
    · rw [has_put_other (by intro h; simp at h; exact hx h), h2]
      simp [hasB, mem_ins, hx]
theorem Ms.drop {w : World} {b : Nat} {l : List Int} (h : Ms w b l) (hr : Ri l) {e : Int} (hw : (Lit.int .i64 e).wf = true) (ty : TypeId) :
    ∃ w', (Builtin.delete_ #[61, 3] ty #[.map (some b), .int .i64 e]).run Try.prog w = .ok (.tuple #[]) w' ∧ Ms w' b (del e l) ∧ w.grownBy w' (some b) := by
  obtain ⟨D, h1, h2, h3⟩ := h
  have ht := h1.tidy law
  obtain ⟨w', hrun, hown, hg⟩ := h1.drop law Try.underlying61 (keyI hw) ty
  have hsz : Maps.size (D.del (.int .i64 e)) = (del e l).length := by
    have a := size_del ht (k := .int .i64 e)
    have c := del_len (e := e) hr
    rw [h2, h3] at a
    by_cases hm : e ∈ l <;> simp [hasB, hm] at a c <;> omega
  refine ⟨w', hrun, ⟨_, ?_, fun x => ?_, hsz⟩, hg.grown⟩
  · rw [← hsz]; exact tight hown
  · by_cases hx : x = e
    · subst hx
      rw [has_del_same]
      exact (hasB_false.2 (by simp [mem_del])).symm
    · rw [has_del_other (by intro h; simp at h; exact hx h), h2]
      simp [hasB, mem_del, hx]
theorem Ms.clear {w : World} {b : Nat} {l : List Int} (h : Ms w b l) (ty : TypeId) :
    ∃ w', (Builtin.clear_ #[61] ty #[.map (some b)]).run Try.prog w = .ok (.tuple #[]) w' ∧ Ms w' b [] ∧ w.grownBy w' (some b) := by
  obtain ⟨D, ⟨es, clock, hb, F, _, _⟩, _⟩ := h
  refine ⟨ChangeMaps.setBlock w b (.map #[] clock), ?_, ⟨.map [], ⟨#[], clock, ChangeMaps.heap_setBlock_same hb _, ⟨by simp, MapKept.stamped_empty _, by simp⟩, Nat.le_refl _, rfl⟩, fun x => by simp [Maps.has, hasB], rfl⟩, ⟨rfl, rfl, rfl, by simp [ChangeMaps.setBlock], fun i _ hi => ChangeMaps.heap_setBlock_other hb _ (fun e => hi (by rw [e]))⟩⟩
  simp [Builtin.clear_, run_underlying Try.underlying61, MapKept.run_getObj_map hb, MapKept.run_setObj_map _ hb, Result.andThen]
  rfl
theorem Ms.len {w : World} {b : Nat} {l : List Int} (h : Ms w b l) (ty : TypeId) : (Builtin.len_ #[61] ty #[.map (some b)]).run Try.prog w = .ok (.int .i64 (l.length : Int)) w := by
  obtain ⟨D, h1, h2, h3⟩ := h
  rw [h1.len Try.underlying61 ty, h3]
theorem Ms.look {w : World} {b : Nat} {l : List Int} (h : Ms w b l) {e : Int} (hw : (Lit.int .i64 e).wf = true) : (Instr.lookup 61 (.map (some b)) (.int .i64 e) true).run Try.prog w = .ok (.tuple #[.agg #[], .bool (hasB l e)]) w := by
  obtain ⟨D, h1, h2, h3⟩ := h
  obtain ⟨v, ps, hrun, hv⟩ := h1.look_ok law Try.underlying61 (zeroU w) unitElem_mk (keyI hw)
  obtain ⟨rfl, _⟩ := unitElem_inv hv
  rw [hrun, h2]

/-- A set's map, or none: then nothing is in it. -/
def Mo (w : World) (m : Option Nat) (l : List Int) : Prop := match m with
  | none => l = []
  | some b => Ms w b l
theorem Mo.fr {w w' : World} {S : Nat → Prop} {m : Option Nat} {l : List Int} (h : Mo w m l) (hf : Fr w w' S) (hS : ∀ b, m = some b → ¬ S b) : Mo w' m l := by
  cases m with
  | none => exact h
  | some b => exact Ms.fr h hf (hS b rfl)
theorem Mo.len {w : World} {m : Option Nat} {l : List Int} (h : Mo w m l) (ty : TypeId) : (Builtin.len_ #[61] ty #[.map m]).run Try.prog w = .ok (.int .i64 (l.length : Int)) w := by
  cases m with
  | none =>
    have h' : l = [] := h
    subst h'
    exact Maps.len_nil Try.underlying61 ty
  | some b => exact Ms.len h ty

set_option maxHeartbeats 1000000 in
theorem has_any {w : World} {b : Nat} {l : List Int} (h : Ms w b l) {e : Int} (hw : (Lit.int .i64 e).wf = true) :
    Calls Try.prog 50 #[.map (some b), .int .i64 e] w fun x w' => x = .returned (.bool (hasB l e)) ∧ Fr w w' (fun _ => False) := by
  have hl := h.look hw
  go_enter Try.func50, Try.ntmps50
  go_wp2
  go_ret
  exact ⟨rfl, alloc_fr _ _ _⟩
set_option maxHeartbeats 1000000 in
theorem add_any {w : World} {b : Nat} {l : List Int} (h : Ms w b l) (hr : Ri l) (hlen : l.length < maxLen) {e : Int} (hw : (Lit.int .i64 e).wf = true) :
    Calls Try.prog 58 #[.map (some b), .int .i64 e] w fun x w' => x = .returned (.tuple #[]) ∧ Ms w' b (ins e l) ∧ w.grownBy w' (some b) := by
  obtain ⟨w1, hrun, hm, hg⟩ := h.put hr hlen hw
  go_enter Try.func58, Try.ntmps58
  go_wp2
  go_end0
  exact ⟨rfl, hm, hg⟩

shelf_lay_g SlLaysZI.n7 Ggz 7 at Try 70 as keysL
shelf_lay_g SlLaysZI.n8 Ggz 8 at Try 69 as collectL
end Go.Proofs.Ytimefcmemklhpaa.E
