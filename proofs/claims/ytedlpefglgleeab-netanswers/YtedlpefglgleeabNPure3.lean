/- net: one connection of a net, call by call. Nothing of the program is used here. -/
import Derived.Test.YtedlpefglgleeabNPure2
namespace Go.Proofs.Ytedlpefglgleeab
open Go.RowKit

/-- A connection of a net, and the net's numbers. -/
structure One (s : Np) (c : Int) (x : Cp) (a b m : Nat) : Prop where
  is : isC c = true
  at_ : s.at c = some x
  a : s.a = a
  b : s.b = b
  m : s.m = m
theorem upd_at {s : Np} {c : Int} {y : Cp} {k : Nat} (h : isC c = true) : (s.upd c y k).at c = some y := by
  unfold Np.at Np.upd
  rw [h]
  simp
theorem upd_other {s : Np} {c d : Int} {y : Cp} {k : Nat} (hc : isC c = true) (hcd : c ≠ d) : (s.upd c y k).at d = s.at d := by
  unfold Np.at Np.upd
  have h1 : 1 ≤ c ∧ c ≤ 64 := of_decide_eq_true hc
  cases hd : isC d with
  | false => simp
  | true =>
    have h2 : 1 ≤ d ∧ d ≤ 64 := of_decide_eq_true hd
    simp only [if_true]
    rw [if_neg (by omega)]
theorem One.upd {s : Np} {c : Int} {x : Cp} {a b m : Nat} (h : One s c x a b m) (y : Cp) (k : Nat) : One (s.upd c y k) c y a b (m + k) := ⟨h.is, upd_at h.is, h.a, h.b, by show s.m + k = _; rw [h.m]⟩
/-- Another connection's call leaves it. -/
theorem One.other {s : Np} {c d : Int} {x y : Cp} {a b m k : Nat} (h : One s d x a b m) (hc : isC c = true) (hcd : c ≠ d) : One (s.upd c y k) d x a b (m + k) := ⟨h.is, by rw [upd_other hc hcd]; exact h.at_, h.a, h.b, by show s.m + k = _; rw [h.m]⟩
theorem openE_new {s : Np} {c : Int} (hc : isC c = true) (h : s.at c = none) : openE s c = 0 ∧ openS s c = s.upd c cp0 0 := by
  unfold Np.at at h
  rw [hc] at h
  simp only [if_true] at h
  unfold openE openS
  rw [hc, h]
  simp
theorem openE_old {s : Np} {c : Int} {x : Cp} {a b m : Nat} (h : One s c x a b m) : openE s c = 43 ∧ openS s c = s := by
  obtain ⟨h1, h2⟩ := at_some h.at_
  unfold openE openS
  rw [h1, h2]
  simp
theorem One.send {s : Np} {c : Int} {x : Cp} {a b m : Nat} (h : One s c x a b m) (hs : x.shut = false) {z : List Nat} (hl : x.w.length + z.length ≤ 1048576) : sendE s c z = 0 ∧ sendS s c z = s.upd c { x with w := x.w ++ z } 0 := by
  unfold sendE sendS
  rw [h.at_]
  have h2 : ¬ 1048576 < x.w.length + z.length := by omega
  simp [hs, h2]
theorem One.sendMany {s : Np} {c : Int} {x : Cp} {a b m : Nat} (h : One s c x a b m) (hs : x.shut = false) {z : List Nat} (hl : 1048576 < x.w.length + z.length) : sendE s c z = 2 ∧ sendS s c z = s := by
  unfold sendE sendS
  rw [h.at_]
  simp [hs, hl]
theorem One.find {s : Np} {c : Int} {x : Cp} {a b m : Nat} (h : One s c x a b m) : findE s c = 0 := by unfold findE; rw [h.at_]
theorem One.use {s : Np} {c : Int} {x : Cp} {a b m : Nat} (h : One s c x a b m) (hs : x.shut = false) : useE s c = 0 := by unfold useE; rw [h.at_]; simp [hs]
theorem One.useS {s : Np} {c : Int} {x : Cp} {a b m : Nat} (h : One s c x a b m) (hs : x.shut = true) : useE s c = 44 := by unfold useE; rw [h.at_]; simp [hs]
theorem One.bring {s : Np} {c : Int} {x : Cp} {a b m : Nat} (h : One s c x a b m) (most : Int) : bringK s c most = partN x.w.length (a - x.i.length) most ∧ bringS s c most = s.upd c { x with i := x.i ++ x.w.take (partN x.w.length (a - x.i.length) most), w := x.w.drop (partN x.w.length (a - x.i.length) most) } (partN x.w.length (a - x.i.length) most) := by
  have e : bringK s c most = partN x.w.length (a - x.i.length) most := by unfold bringK; rw [h.at_, h.a]
  refine ⟨e, ?_⟩
  unfold bringS
  rw [e, h.at_]
theorem One.take {s : Np} {c : Int} {x : Cp} {a b m : Nat} (h : One s c x a b m) (hs : x.shut = false) : takeB s c = x.i ∧ takeS s c = s.upd c { x with i := [] } 0 := by
  unfold takeB takeS
  rw [h.at_]
  simp [hs]
theorem One.write {s : Np} {c : Int} {x : Cp} {a b m : Nat} (h : One s c x a b m) (hs : x.shut = false) (z : List Nat) : writeK s c z.length = min z.length (b - x.o.length) ∧ writeS s c z = s.upd c { x with o := x.o ++ z.take (min z.length (b - x.o.length)) } 0 := by
  have e : writeK s c z.length = min z.length (b - x.o.length) := by unfold writeK; rw [h.at_, h.b]; simp [hs]
  refine ⟨e, ?_⟩
  unfold writeS
  rw [e, h.at_]
  simp [hs]
theorem One.writeS_ {s : Np} {c : Int} {x : Cp} {a b m : Nat} (h : One s c x a b m) (hs : x.shut = true) (z : List Nat) : writeK s c z.length = 0 ∧ writeS s c z = s ∧ sendE s c z = 44 ∧ sendS s c z = s ∧ takeB s c = [] ∧ takeS s c = s ∧ closeS s c = s := by
  unfold writeK writeS sendE sendS takeB takeS closeS
  rw [h.at_]
  simp [hs]
theorem One.fetch {s : Np} {c : Int} {x : Cp} {a b m : Nat} (h : One s c x a b m) (most : Int) : fetchK s c most = min x.o.length most.toNat ∧ fetchS s c most = s.upd c { x with h := x.h ++ x.o.take (min x.o.length most.toNat), o := x.o.drop (min x.o.length most.toNat) } (min x.o.length most.toNat) := by
  have e : fetchK s c most = min x.o.length most.toNat := by unfold fetchK; rw [h.at_]
  refine ⟨e, ?_⟩
  unfold fetchS
  rw [e, h.at_]
theorem One.close {s : Np} {c : Int} {x : Cp} {a b m : Nat} (h : One s c x a b m) (hs : x.shut = false) : closeS s c = s.upd c { x with cl := true, w := [], i := [] } 0 := by
  unfold closeS
  rw [h.at_]
  simp [hs]
theorem One.cut {s : Np} {c : Int} {x : Cp} {a b m : Nat} (h : One s c x a b m) (hs : x.ct = false) : cutE s c = 0 ∧ cutS s c = s.upd c { x with ct := true, w := [], i := [], o := [] } 0 := by
  unfold cutE cutS
  rw [h.at_]
  simp [hs]
theorem One.cutS_ {s : Np} {c : Int} {x : Cp} {a b m : Nat} (h : One s c x a b m) (hs : x.ct = true) : cutE s c = 44 ∧ cutS s c = s := by
  unfold cutE cutS
  rw [h.at_]
  simp [hs]
theorem One.heard {s : Np} {c : Int} {x : Cp} {a b m : Nat} (h : One s c x a b m) : heardB s c = x.h ∧ heardN s c = x.end_ := by unfold heardB heardN; rw [h.at_]; exact ⟨rfl, rfl⟩
theorem One.isx {s : Np} {c : Int} {x : Cp} {a b m : Nat} (h : One s c x a b m) : isO s c = (!x.shut) ∧ isT s c = x.ct := by unfold isO isT; rw [h.at_]; exact ⟨rfl, rfl⟩
theorem One.under {s : Np} {c : Int} {x : Cp} {a b m : Nat} (h : One s c x a b m) : undI s c = x.w.length + x.i.length ∧ undO s c = x.o.length := by unfold undI undO; rw [h.at_]; exact ⟨rfl, rfl⟩
/-- A net's first connection. -/
theorem one_new {a b : Nat} {c : Int} (hc : isC c = true) : openE (np0 a b) c = 0 ∧ One (openS (np0 a b) c) c cp0 a b 0 := by
  have h0 : (np0 a b).at c = none := by unfold Np.at np0; simp
  obtain ⟨h1, h2⟩ := openE_new hc h0
  exact ⟨h1, by rw [h2]; exact ⟨hc, upd_at hc, rfl, rfl, rfl⟩⟩
/-- The same by fields: what stands behind a call. -/
theorem One.sendX {s : Np} {c : Int} {x : Cp} {a b m : Nat} (h : One s c x a b m) (hs : x.shut = false) {z : List Nat} (hl : x.w.length + z.length ≤ 1048576) : sendE s c z = 0 ∧ ∃ y : Cp, One (sendS s c z) c y a b m ∧ y.i = x.i ∧ y.w = x.w ++ z ∧ y.o = x.o ∧ y.h = x.h ∧ y.cl = x.cl ∧ y.ct = x.ct := by
  obtain ⟨h1, h2⟩ := h.send hs hl
  exact ⟨h1, { x with w := x.w ++ z }, by rw [h2]; exact h.upd _ 0, rfl, rfl, rfl, rfl, rfl, rfl⟩
theorem One.bringX {s : Np} {c : Int} {x : Cp} {a b m k : Nat} (h : One s c x a b m) (most : Int) (hk : partN x.w.length (a - x.i.length) most = k) : bringK s c most = k ∧ ∃ y : Cp, One (bringS s c most) c y a b (m + k) ∧ y.i = x.i ++ x.w.take k ∧ y.w = x.w.drop k ∧ y.o = x.o ∧ y.h = x.h ∧ y.cl = x.cl ∧ y.ct = x.ct := by
  subst hk
  obtain ⟨h1, h2⟩ := h.bring most
  exact ⟨h1, { x with i := x.i ++ x.w.take (partN x.w.length (a - x.i.length) most), w := x.w.drop (partN x.w.length (a - x.i.length) most) }, by rw [h2]; exact h.upd _ _, rfl, rfl, rfl, rfl, rfl, rfl⟩
theorem One.takeX {s : Np} {c : Int} {x : Cp} {a b m : Nat} (h : One s c x a b m) (hs : x.shut = false) : takeB s c = x.i ∧ ∃ y : Cp, One (takeS s c) c y a b m ∧ y.i = [] ∧ y.w = x.w ∧ y.o = x.o ∧ y.h = x.h ∧ y.cl = x.cl ∧ y.ct = x.ct := by
  obtain ⟨h1, h2⟩ := h.take hs
  exact ⟨h1, { x with i := [] }, by rw [h2]; exact h.upd _ 0, rfl, rfl, rfl, rfl, rfl, rfl⟩
theorem One.writeX {s : Np} {c : Int} {x : Cp} {a b m k : Nat} (h : One s c x a b m) (hs : x.shut = false) (z : List Nat) (hk : min z.length (b - x.o.length) = k) : writeK s c z.length = k ∧ ∃ y : Cp, One (writeS s c z) c y a b m ∧ y.i = x.i ∧ y.w = x.w ∧ y.o = x.o ++ z.take k ∧ y.h = x.h ∧ y.cl = x.cl ∧ y.ct = x.ct := by
  subst hk
  obtain ⟨h1, h2⟩ := h.write hs z
  exact ⟨h1, { x with o := x.o ++ z.take (min z.length (b - x.o.length)) }, by rw [h2]; exact h.upd _ 0, rfl, rfl, rfl, rfl, rfl, rfl⟩
theorem One.fetchX {s : Np} {c : Int} {x : Cp} {a b m k : Nat} (h : One s c x a b m) (most : Int) (hk : min x.o.length most.toNat = k) : fetchK s c most = k ∧ ∃ y : Cp, One (fetchS s c most) c y a b (m + k) ∧ y.i = x.i ∧ y.w = x.w ∧ y.o = x.o.drop k ∧ y.h = x.h ++ x.o.take k ∧ y.cl = x.cl ∧ y.ct = x.ct := by
  subst hk
  obtain ⟨h1, h2⟩ := h.fetch most
  exact ⟨h1, { x with h := x.h ++ x.o.take (min x.o.length most.toNat), o := x.o.drop (min x.o.length most.toNat) }, by rw [h2]; exact h.upd _ _, rfl, rfl, rfl, rfl, rfl, rfl⟩
theorem One.closeX {s : Np} {c : Int} {x : Cp} {a b m : Nat} (h : One s c x a b m) (hs : x.shut = false) : ∃ y : Cp, One (closeS s c) c y a b m ∧ y.i = [] ∧ y.w = [] ∧ y.o = x.o ∧ y.h = x.h ∧ y.cl = true ∧ y.ct = x.ct := by
  have h2 := h.close hs
  exact ⟨{ x with cl := true, w := [], i := [] }, by rw [h2]; exact h.upd _ 0, rfl, rfl, rfl, rfl, rfl, rfl⟩
theorem One.cutX {s : Np} {c : Int} {x : Cp} {a b m : Nat} (h : One s c x a b m) (hs : x.ct = false) : cutE s c = 0 ∧ ∃ y : Cp, One (cutS s c) c y a b m ∧ y.i = [] ∧ y.w = [] ∧ y.o = [] ∧ y.h = x.h ∧ y.cl = x.cl ∧ y.ct = true := by
  obtain ⟨h1, h2⟩ := h.cut hs
  exact ⟨h1, { x with ct := true, w := [], i := [], o := [] }, by rw [h2]; exact h.upd _ 0, rfl, rfl, rfl, rfl, rfl, rfl⟩
theorem shut_no {x : Cp} (h1 : x.cl = false) (h2 : x.ct = false) : x.shut = false := by unfold Cp.shut; rw [h1, h2]; rfl
/-- The connection alone, and how much was moved. -/
theorem part_min (n room : Nat) (most : Int) : (partN n room most : Int) = min (min (n : Int) (room : Int)) (max most 0) := by unfold partN; omega
end Go.Proofs.Ytedlpefglgleeab
