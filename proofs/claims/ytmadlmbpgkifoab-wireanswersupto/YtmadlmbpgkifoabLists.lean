/- A slice of byte slices that came in; rows of slices that the call owns. -/
import Derived.Test.YtmadlmbpgkifoabTail
import Derived.Test.YtmadlmbpgkifoabStream
namespace Go.Proofs.Ytmadlmbpgkifoab
open Go.RowKit

/-- Byte slices that can be read at a slice of slices. -/
def Bss (w : World) (v : Value) (bs : List (List Nat)) : Prop :=
  ∃ ao cap, v = .slice ao bs.length cap ∧ (bs ≠ [] → ∃ (b off : Nat) (V : Nat → Value), ao = some ⟨b, off, none⟩ ∧ ∀ i, i < bs.length → w.cell? ⟨b, off + i, none⟩ = some (V i) ∧ Bs w (V i) (bs.getD i []))

/-- Frames behind one another. -/
def cat : List (List Nat) → List Nat
  | [] => []
  | b :: r => frameB b ++ cat r
theorem cat_snoc (gs : List (List Nat)) (b : List Nat) : cat (gs ++ [b]) = cat gs ++ frameB b := by
  induction gs with
  | nil => simp [cat]
  | cons a r ih => simp [cat, ih]
theorem cat_lt (gs : List (List Nat)) (h : ∀ g ∈ gs, ∀ j, g.getD j 0 < 256) (j : Nat) : (cat gs).getD j 0 < 256 := by
  induction gs generalizing j with
  | nil => simp [cat]
  | cons a r ih =>
    rw [cat]
    exact getD_append_lt (frameB_lt (h a (by simp))) (ih (fun g hg => h g (by simp [hg]))) j

theorem Try.info24 : (Try.prog.info? 24).map (fun i => (i.zero, i.size, i.bytes)) = some (some (.slice none 0 0), 1, 24) := by kernel_rfl

/-- Two rows of unlike elements lie apart. -/
theorem own_apart {w : World} {b1 b2 : Nat} {e1 e2 : TypeId} {s1 s2 : Nat} {v1 v2 : Value} {n1 n2 : Nat} {x1 x2 : List Value} (h1 : w.ownsRow b1 e1 s1 v1 n1 x1) (h2 : w.ownsRow b2 e2 s2 v2 n2 x2) (hne : e1 ≠ e2) {k : Nat} (hk : v1.ownBlock = some k) : v2.ownBlock ≠ some k := by
  intro hk2
  rcases h1.2 with ⟨rfl, _⟩ | ⟨g, cap, cur, rfl, _, hg, _⟩
  · simp [Value.ownBlock] at hk
  · rcases h2.2 with ⟨rfl, _⟩ | ⟨g2, cap2, cur2, rfl, _, hg2, _⟩
    · simp [Value.ownBlock] at hk2
    · simp [Value.ownBlock] at hk hk2
      subst hk
      subst hk2
      rw [hg] at hg2
      simp at hg2
      exact hne hg2.2

/-- What the first loop of WireCuts holds: the bytes and the bodies. -/
structure CW (w : World) (al gd : Value) (gs : List (List Nat)) (Vs : List Value) (A : List Nat) (wx : World) : Prop where
  aown : wx.ownsRow w.heap.size 5 1 al A.length (by8 A)
  gown : wx.ownsRow w.heap.size 24 1 gd gs.length Vs
  vlen : Vs.length = gs.length
  bss : ∀ i, i < gs.length → Bs wx (Vs.getD i (.slice none 0 0)) (gs.getD i []) ∧ (∀ k, (Vs.getD i (.slice none 0 0)).ownBlock = some k → k < w.heap.size)
  good : ∀ g ∈ gs, (1 ≤ g.length ∧ g.length ≤ 65536) ∧ ∀ j, g.getD j 0 < 256
  below : Below w.heap.size w wx

theorem CW.fr {w : World} {al gd : Value} {gs : List (List Nat)} {Vs : List Value} {A : List Nat} {wx w' : World} {S : Nat → Prop} (h : CW w al gd gs Vs A wx) (hf : Fr wx w' S) (hS : ∀ k, S k → w.heap.size ≤ k) (ha : ∀ k, al.ownBlock = some k → ¬ S k) (hg : ∀ k, gd.ownBlock = some k → ¬ S k) : CW w al gd gs Vs A w' :=
  ⟨own_fr h.aown hf ha, own_fr h.gown hf hg, h.vlen, fun i hi => ⟨(h.bss i hi).1.fr hf (fun k hk hs => by have := (h.bss i hi).2 k hk; have := hS k hs; omega), (h.bss i hi).2⟩, h.good, h.below.trans (hf.below h.below.size hS)⟩
theorem CW.drewN {w : World} {al gd : Value} {gs : List (List Nat)} {Vs : List Value} {A : List Nat} {wx : World} (h : CW w al gd gs Vs A wx) (n : Nat) : CW w al gd gs Vs A (wx.drewN n) :=
  h.fr (S := fun _ => False) ((Fr.refl _ _).drewN n) (fun _ h => h.elim) (fun _ _ h => h) (fun _ _ h => h)
end Go.Proofs.Ytmadlmbpgkifoab
