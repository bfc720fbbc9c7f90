/- net: a net as the document has it: what each call tells, and what it leaves. Nothing of the program is used here. -/
import Derived.Test.YtedlpefglgleeabNOf
namespace Go.Proofs.Ytedlpefglgleeab
open Go.RowKit

/-- A connection: in buffer, way, out buffer, heard; closed, cut. -/
structure Cp where
  i : List Nat
  w : List Nat
  o : List Nat
  h : List Nat
  cl : Bool
  ct : Bool
def cp0 : Cp := ⟨[], [], [], [], false, false⟩
/-- A net: rooms, connections by number, how many bytes were moved. -/
structure Np where
  a : Nat
  b : Nat
  c : Nat → Option Cp
  m : Nat
def np0 (a b : Nat) : Np := ⟨a, b, fun _ => none, 0⟩
def isC (c : Int) : Bool := decide (1 ≤ c ∧ c ≤ 64)
def Np.at (s : Np) (c : Int) : Option Cp := if isC c then s.c c.toNat else none
def goneE (c : Int) : Int := if isC c then 44 else 1
def Np.upd (s : Np) (c : Int) (y : Cp) (k : Nat) : Np := { s with c := fun d => if d = c.toNat then some y else s.c d, m := s.m + k }
def Cp.shut (x : Cp) : Bool := x.cl || x.ct
def partN (n room : Nat) (most : Int) : Nat := min (min n room) most.toNat

def openE (s : Np) (c : Int) : Int := if isC c then (if (s.c c.toNat).isSome then 43 else 0) else 1
def openS (s : Np) (c : Int) : Np := if isC c ∧ (s.c c.toNat).isSome = false then s.upd c cp0 0 else s
def useE (s : Np) (c : Int) : Int := match s.at c with | none => goneE c | some x => if x.shut then 44 else 0
def sendE (s : Np) (c : Int) (b : List Nat) : Int := match s.at c with | none => goneE c | some x => if x.shut then 44 else if 1048576 < x.w.length + b.length then 2 else 0
def sendS (s : Np) (c : Int) (b : List Nat) : Np := match s.at c with | none => s | some x => if x.shut then s else if 1048576 < x.w.length + b.length then s else s.upd c { x with w := x.w ++ b } 0
def bringK (s : Np) (c most : Int) : Nat := match s.at c with | none => 0 | some x => partN x.w.length (s.a - x.i.length) most
def findE (s : Np) (c : Int) : Int := match s.at c with | none => goneE c | some _ => 0
def bringS (s : Np) (c most : Int) : Np := match s.at c with | none => s | some x => s.upd c { x with i := x.i ++ x.w.take (bringK s c most), w := x.w.drop (bringK s c most) } (bringK s c most)
def takeB (s : Np) (c : Int) : List Nat := match s.at c with | none => [] | some x => if x.shut then [] else x.i
def takeS (s : Np) (c : Int) : Np := match s.at c with | none => s | some x => if x.shut then s else s.upd c { x with i := [] } 0
def writeK (s : Np) (c : Int) (n : Nat) : Nat := match s.at c with | none => 0 | some x => if x.shut then 0 else min n (s.b - x.o.length)
def writeS (s : Np) (c : Int) (b : List Nat) : Np := match s.at c with | none => s | some x => if x.shut then s else s.upd c { x with o := x.o ++ b.take (writeK s c b.length) } 0
def fetchK (s : Np) (c most : Int) : Nat := match s.at c with | none => 0 | some x => min x.o.length most.toNat
def fetchS (s : Np) (c most : Int) : Np := match s.at c with | none => s | some x => s.upd c { x with h := x.h ++ x.o.take (fetchK s c most), o := x.o.drop (fetchK s c most) } (fetchK s c most)
def closeS (s : Np) (c : Int) : Np := match s.at c with | none => s | some x => if x.shut then s else s.upd c { x with cl := true, w := [], i := [] } 0
def cutE (s : Np) (c : Int) : Int := match s.at c with | none => goneE c | some x => if x.ct then 44 else 0
def cutS (s : Np) (c : Int) : Np := match s.at c with | none => s | some x => if x.ct then s else s.upd c { x with ct := true, w := [], i := [], o := [] } 0
def heardB (s : Np) (c : Int) : List Nat := match s.at c with | none => [] | some x => x.h
def Cp.end_ (x : Cp) : Bool := x.ct || (x.cl && decide (x.o.length = 0))
def heardN (s : Np) (c : Int) : Bool := match s.at c with | none => false | some x => x.end_
def isO (s : Np) (c : Int) : Bool := match s.at c with | none => false | some x => !x.shut
def isT (s : Np) (c : Int) : Bool := match s.at c with | none => false | some x => x.ct
def undI (s : Np) (c : Int) : Nat := match s.at c with | none => 0 | some x => x.w.length + x.i.length
def undO (s : Np) (c : Int) : Nat := match s.at c with | none => 0 | some x => x.o.length
/-- A right net. -/
structure Wf (s : Np) : Prop where
  a : 1 ≤ s.a ∧ s.a ≤ 131072
  b : 1 ≤ s.b ∧ s.b ≤ 131072
  c : ∀ c x, s.c c = some x → x.i.length ≤ s.a ∧ x.w.length ≤ 1048576 ∧ x.o.length ≤ s.b ∧ x.h.length ≤ s.m ∧ (x.shut = true → x.i = [] ∧ x.w = []) ∧ (x.ct = true → x.o = [])
theorem Np.at_in {s : Np} {n : Nat} (h1 : 1 ≤ n) (h2 : n ≤ 64) : s.at (n : Int) = s.c n := by
  unfold Np.at isC
  rw [decide_eq_true (by omega), if_pos rfl, Int.toNat_natCast]
theorem Np.at_out {s : Np} {c : Int} (h : isC c = false) : s.at c = none := by unfold Np.at; rw [h]; simp
end Go.Proofs.Ytedlpefglgleeab
