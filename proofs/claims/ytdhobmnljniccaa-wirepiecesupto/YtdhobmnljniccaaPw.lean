/- Both Frames side by side: what a step leaves. -/
import Derived.Test.YtdhobmnljniccaaBoth
import Derived.Test.YtdhobmnljniccaaLists
namespace Go.Proofs.Ytdhobmnljniccaa
open Go.RowKit

/-- The program's Frames at the first new block, the document's at G. -/
structure PW (w : World) (G : Nat) (most : Nat) (vx vr : Value) (fed : List Nat) (told br : Nat) (B : List Nat) (bb : Bool) (wx : World) : Prop where
  fz : Fz wx w.heap.size w.heap.size vx most fed told br
  rz : Rz wx w.heap.size G vr most B bb
  ap : ∀ k, vx.ownBlock = some k → vr.ownBlock ≠ some k
  rN : vr.ownBlock ≠ some w.heap.size
  NG : G ≠ w.heap.size
  below : Below w.heap.size w wx

theorem PW.xG {w : World} {G most : Nat} {vx vr : Value} {fed : List Nat} {told br : Nat} {B : List Nat} {bb : Bool} {wx : World} (h : PW w G most vx vr fed told br B bb wx) : vx.ownBlock ≠ some G := own_ne h.fz.own h.rz.cell (by decide)
theorem PW.fr {w : World} {G most : Nat} {vx vr : Value} {fed : List Nat} {told br : Nat} {B : List Nat} {bb : Bool} {wx w' : World} {S : Nat → Prop} (h : PW w G most vx vr fed told br B bb wx) (hf : Fr wx w' S) (hS : ∀ k, S k → w.heap.size ≤ k ∧ k ≠ w.heap.size ∧ k ≠ G ∧ vx.ownBlock ≠ some k ∧ vr.ownBlock ≠ some k) : PW w G most vx vr fed told br B bb w' :=
  ⟨h.fz.fr hf (fun s => (hS _ s).2.1 rfl) (fun k hk s => (hS k s).2.2.2.1 hk), h.rz.fr hf (fun s => (hS _ s).2.2.1 rfl) (fun k hk s => (hS k s).2.2.2.2 hk), h.ap, h.rN, h.NG, h.below.trans (hf.below h.below.size (fun k s => (hS k s).1))⟩
theorem PW.none {w : World} {G most : Nat} {vx vr : Value} {fed : List Nat} {told br : Nat} {B : List Nat} {bb : Bool} {wx w' : World} (h : PW w G most vx vr fed told br B bb wx) (hf : Fr wx w' (fun _ => False)) : PW w G most vx vr fed told br B bb w' := h.fr hf (fun _ s => s.elim)
theorem PW.drewN {w : World} {G most : Nat} {vx vr : Value} {fed : List Nat} {told br : Nat} {B : List Nat} {bb : Bool} {wx : World} (h : PW w G most vx vr fed told br B bb wx) (n : Nat) : PW w G most vx vr fed told br B bb (wx.drewN n) := h.none ((Fr.refl _ _).drewN n)
theorem PW.new {w : World} {G most : Nat} {vx vr : Value} {fed : List Nat} {told br : Nat} {B : List Nat} {bb : Bool} {wx : World} (h : PW w G most vx vr fed told br B bb wx) {k : Nat} (hk : wx.heap.size ≤ k) : w.heap.size ≤ k ∧ k ≠ w.heap.size ∧ k ≠ G ∧ vx.ownBlock ≠ some k ∧ vr.ownBlock ≠ some k := by
  have h1 := lt_of_block h.fz.cell
  have h2 := lt_of_block h.rz.cell
  refine ⟨by omega, by omega, by omega, fun e => ?_, fun e => ?_⟩
  · have := (h.fz.own.lt k e).2
    omega
  · have := (h.rz.own.lt e).2
    omega
theorem PW.x {w : World} {G most : Nat} {vx vr vx' : Value} {fed fed' : List Nat} {told br told' br' : Nat} {B : List Nat} {bb : Bool} {wx w' : World} (h : PW w G most vx vr fed told br B bb wx) (hz : Fz w' w.heap.size w.heap.size vx' most fed' told' br') (hf : Fr wx w' (fun k => k = w.heap.size ∨ vx.ownBlock = some k)) (hn : Nw wx vx vx') :
    PW w G most vx' vr fed' told' br' B bb w' := by
  refine ⟨hz, h.rz.fr hf (fun s => ?_) (fun k hk s => ?_), fun k hk e => ?_, h.rN, h.NG, h.below.trans (hf.below h.below.size (fun k s => ?_))⟩
  · rcases s with s | s
    · exact h.NG s
    · exact h.xG s
  · rcases s with s | s
    · exact h.rN (by rw [← s]; exact hk)
    · exact h.ap k s hk
  · rcases hn k hk with s | s
    · exact h.ap k s e
    · have := (h.rz.own.lt e).2
      omega
  · rcases s with s | s
    · omega
    · exact (h.fz.own.lt k s).1
theorem PW.r {w : World} {G most : Nat} {vx vr vr' : Value} {fed : List Nat} {told br : Nat} {B B' : List Nat} {bb bb' : Bool} {wx w' : World} (h : PW w G most vx vr fed told br B bb wx) (hz : Rz w' w.heap.size G vr' most B' bb') (hf : Fr wx w' (fun k => k = G ∨ vr.ownBlock = some k)) (hn : Nw wx vr vr') :
    PW w G most vx vr' fed told br B' bb' w' := by
  have h1 := lt_of_block h.fz.cell
  refine ⟨h.fz.fr hf (fun s => ?_) (fun k hk s => ?_), hz, fun k hk e => ?_, fun e => ?_, h.NG, h.below.trans (hf.below h.below.size (fun k s => ?_))⟩
  · rcases s with s | s
    · exact h.NG s.symm
    · exact h.rN s
  · rcases s with s | s
    · exact h.xG (by rw [← s]; exact hk)
    · exact h.ap k hk s
  · rcases hn k e with s | s
    · exact h.ap k hk s
    · have := (h.fz.own.lt k hk).2
      omega
  · rcases hn _ e with s | s
    · exact h.rN s
    · omega
  · rcases s with s | s
    · rw [s]
      exact h.rz.base
    · exact (h.rz.own.lt s).1

theorem Ahead.feed {fed : List Nat} {told br : Nat} {B : List Nat} {bb : Bool} (h : Ahead fed told br B bb) (hl : told ≤ fed.length) (xs : List Nat) : Ahead (if br = 0 then fed ++ xs else fed) told br (if bb then B else B ++ xs) bb := by
  rcases h with ⟨rfl, rfl, rfl⟩ | ⟨h, rfl, h2⟩
  · exact Or.inl ⟨rfl, rfl, by simp [List.drop_append_of_le_length hl]⟩
  · exact Or.inr ⟨h, rfl, by simpa using h2⟩
end Go.Proofs.Ytdhobmnljniccaa
