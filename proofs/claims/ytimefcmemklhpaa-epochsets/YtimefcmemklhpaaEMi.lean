/- A map from numbers to numbers, as a function; a map that the call makes. -/
import Derived.Test.YtimefcmemklhpaaEAlike
import Derived.Maps.OwnOps
namespace Go.Proofs.Ytimefcmemklhpaa.E
open Go.RowKit Go.Maps Go.MuLone

/-- Block b is a map of at most n keys that answers f. -/
def Mi (w : World) (b n : Nat) (f : Int → Int) : Prop := ∃ D : DataW Unit, w.ownsMap Try.prog 3 (plainElem Try.prog 3) b n D ∧ IsMap D ∧ ∀ x, D.atKey (.int .i64 x) (.lit (.int .i64 0)) = .lit (.int .i64 (f x))
theorem Mi.lt {w : World} {b n : Nat} {f : Int → Int} (h : Mi w b n f) : b < w.heap.size := by obtain ⟨D, h, _⟩ := h; exact h.lt
theorem Mi.at {w w' : World} {b n : Nat} {f : Int → Int} (h : Mi w b n f) (hb : w'.heap[b]? = w.heap[b]?) : Mi w' b n f := by
  obtain ⟨D, ⟨es, c, h1, r⟩, h2⟩ := h
  exact ⟨D, ⟨es, c, hb.trans h1, r⟩, h2⟩
theorem Mi.fr {w w' : World} {S : Nat → Prop} {b n : Nat} {f : Int → Int} (h : Mi w b n f) (hf : Fr w w' S) (hS : ¬ S b) : Mi w' b n f := h.at (hf.block b h.lt hS)
theorem Mi.new (w : World) : Mi (w.alloc (.map #[] 0)) w.heap.size 0 (fun _ => 0) := ⟨.map [], World.ownsMap_made w _ _ _, ⟨_, rfl⟩, fun _ => rfl⟩
theorem Mi.kb {w : World} {b n : Nat} {f : Int → Int} (h : Mi w b n f) : KB w b := by
  obtain ⟨D, ⟨es, c, h1, r⟩, h2⟩ := h
  exact Or.inr ⟨es, c, h1⟩
theorem Mi.eq {w : World} {b n : Nat} {f g : Int → Int} (h : Mi w b n f) (e : ∀ x, f x = g x) : Mi w b n g := by
  rwa [show g = f from funext (fun x => (e x).symm)]
theorem Mi.mono {w : World} {b n n' : Nat} {f : Int → Int} (h : Mi w b n f) (hn : n ≤ n') : Mi w b n' f := by
  obtain ⟨D, h1, h2⟩ := h
  exact ⟨D, h1.mono hn, h2⟩
theorem Mi.look {w : World} {b n : Nat} {f : Int → Int} (h : Mi w b n f) {e : Int} (hw : (Lit.int .i64 e).wf = true) : (Instr.lookup 42 (.map (some b)) (.int .i64 e) false).run Try.prog w = .ok (.int .i64 (f e)) w := by
  obtain ⟨D, h1, _, h2⟩ := h
  obtain ⟨c, hrun, hat, _⟩ := h1.lookup_int law Try.underlying42 Try.underlying3 (zeroI w) (keyI hw)
  rw [h2 e] at hat
  have : f e = c := by simpa using hat
  rw [hrun, this]
def updI (f : Int → Int) (e v : Int) : Int → Int := fun x => if x = e then v else f x
theorem Mi.put {w : World} {b n : Nat} {f : Int → Int} (h : Mi w b n f) (hlen : n < maxLen) {e v : Int} (hw : (Lit.int .i64 e).wf = true) (hv : (Lit.int .i64 v).wf = true) :
    ∃ w', (Instr.mapUpdate 42 (.map (some b)) (.int .i64 e) (.int .i64 v)).run Try.prog w = .ok () w' ∧ Mi w' b (n + 1) (updI f e v) ∧ w.grownBy w' (some b) := by
  obtain ⟨D, h1, h2, h3⟩ := h
  obtain ⟨w', hrun, hown, hg⟩ := h1.update law Try.underlying42 hlen (keyI hw) (plainElem_int Try.underlying3 hv)
  refine ⟨w', hrun, ⟨_, hown, hown.isMap, fun x => ?_⟩, hg⟩
  by_cases hx : x = e
  · subst hx
    rw [atKey_put_same (k := .int .i64 x) h2 trivial]
    simp [updI]
  · rw [atKey_put_other (by intro h; simp at h; exact hx h), h3]
    simp [updI, hx]
end Go.Proofs.Ytimefcmemklhpaa.E
