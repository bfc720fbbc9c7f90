/- The bodies of WireMany, as lists. -/
import Derived.Test.YtfoapnmljnonlabStream
import Derived.Test.YtfoapnmljnonlabTail
namespace Go.Proofs.Ytfoapnmljnonlab
open Go.RowKit

def bodyM (i : Nat) : List Nat := [i % 256, i / 256 % 256].take (1 + i % 2)
theorem bodyM_length (i : Nat) : (bodyM i).length = 1 + i % 2 := by
  simp [bodyM]
  omega
theorem bodyM_lt (i j : Nat) : (bodyM i).getD j 0 < 256 := by
  refine getD_take_lt (ps := [i % 256, i / 256 % 256]) (fun j => ?_) (1 + i % 2) j
  match j with
  | 0 => simp; omega
  | 1 => simp; omega
  | j + 2 => simp
/-- So many frames, from that number on. -/
def tl : Nat → Nat → List Nat
  | _, 0 => []
  | a, c + 1 => frameB (bodyM a) ++ tl (a + 1) c
theorem tl_snoc (a c : Nat) : tl a (c + 1) = tl a c ++ frameB (bodyM (a + c)) := by
  induction c generalizing a with
  | zero => simp [tl]
  | succ c ih =>
    rw [tl, ih (a + 1), tl, List.append_assoc, show a + 1 + c = a + (c + 1) from by omega]
theorem tl_length (a c : Nat) : (tl a c).length ≤ 6 * c := by
  induction c generalizing a with
  | zero => simp [tl]
  | succ c ih =>
    have h1 := ih (a + 1)
    have h2 := bodyM_length a
    rw [tl, List.length_append, frameB_length]
    omega
theorem tl_lt (a c j : Nat) : (tl a c).getD j 0 < 256 := by
  induction c generalizing a j with
  | zero => simp [tl]
  | succ c ih =>
    rw [tl]
    exact getD_append_lt (frameB_lt (bodyM_lt a)) (ih (a + 1)) j
theorem tl_nil (a c : Nat) (h : tl a c = []) : c = 0 := by
  cases c with
  | zero => rfl
  | succ c =>
    have := congrArg List.length h
    rw [tl, List.length_append, frameB_length] at this
    simp at this
end Go.Proofs.Ytfoapnmljnonlab
