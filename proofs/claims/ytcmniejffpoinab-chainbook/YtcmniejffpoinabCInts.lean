/- Numbers that the call owns; rows of unlike kinds lie apart. -/
import Derived.Test.YtcmniejffpoinabCNeed
namespace Go.Proofs.Ytcmniejffpoinab
open Go.RowKit

/-- Numbers as values. -/
def iv (l : List Int) : List Value := l.map (Value.int .i64)
theorem iv_length (l : List Int) : (iv l).length = l.length := by simp [iv]
theorem iv_append (a b : List Int) : iv (a ++ b) = iv a ++ iv b := by simp [iv]
theorem iv_get (l : List Int) (j : Nat) (h : j < l.length) : (iv l)[j]? = some (.int .i64 (l.getD j 0)) := by simp [iv, List.getD, h]
theorem iv_one (l : List Int) : ∀ u ∈ iv l, u.oneCell' = true := by
  intro u hu
  simp only [iv, List.mem_map] at hu
  obtain ⟨c, _, rfl⟩ := hu
  rfl
theorem Try.info_int : (Try.prog.info? 3).map (fun i => (i.zero, i.size, i.bytes)) = some (some (.int .i64 0), 1, 8) := by kernel_rfl
/-- An owned row of numbers can be read. -/
theorem own_is {w : World} {base n : Nat} {v : Value} {zs : List Int} (h : w.ownsRow base 3 1 v n (iv zs)) (hf : ∀ x ∈ zs, fits x) (hl : zs.length ≤ 140737488355328) : Is w v zs := by
  have hn : zs.length = n := by have := h.1; simpa [iv] using this
  rcases h.2 with ⟨rfl, h0⟩ | ⟨g, cap, cur, rfl, _⟩
  · have : zs = [] := List.eq_nil_of_length_eq_zero (by omega)
    subst this
    exact ⟨none, 0, rfl, by simp, hf, fun h => absurd rfl h⟩
  · subst hn
    refine ⟨_, _, rfl, by omega, hf, fun _ => ⟨g, 0, rfl, fun i hi => ?_⟩⟩
    have := h.cells (g := g) rfl i _ (iv_get zs i hi)
    rwa [Addr.add_lit] at this
/-- Rows of unlike element types lie in unlike blocks. -/
theorem own_apart {w : World} {b1 b2 s1 s2 n1 n2 : Nat} {e1 e2 : TypeId} {v1 v2 : Value} {x1 x2 : List Value} (h1 : w.ownsRow b1 e1 s1 v1 n1 x1) (h2 : w.ownsRow b2 e2 s2 v2 n2 x2) (he : e1 ≠ e2) : ∀ k, v1.ownBlock = some k → v2.ownBlock ≠ some k := by
  intro k hk hk2
  rcases h1.2 with ⟨rfl, _⟩ | ⟨g, cap, cur, rfl, _, hg, _⟩
  · simp [Value.ownBlock] at hk
  · simp [Value.ownBlock] at hk
    subst hk
    exact own_ne h2 hg he hk2
/-- A chain changed by itself: what is older than the call stays. -/
theorem Ch.frOwn {w wx wy : World} {base B : Nat} {v : Value} {L : List Vn} (h : Ch wx base B v L) (hf : Fr w wx (fun _ => False)) (hf2 : Fr wx wy (fun k => k = B ∨ v.ownBlock = some k)) (hb : w.heap.size ≤ base) (hB : w.heap.size ≤ B) : Fr w wy (fun _ => False) :=
  hf.trans2 hf2 (fun k hk e => by
    rcases e with e | e
    · omega
    · have := (h.own.lt k e).1
      omega)
theorem int_new (w : World) (x : Value) (e : TypeId) : ∀ (j : Nat) (u : Value), [x][j]? = some u → (w.alloc (.cells #[x] e)).cell? ((⟨w.heap.size, 0, none⟩ : Addr).add j) = some u := cells_new w x e
end Go.Proofs.Ytcmniejffpoinab
