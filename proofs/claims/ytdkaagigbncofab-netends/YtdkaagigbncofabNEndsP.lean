/- NetEnds: what each call tells. Nothing of the program is used here. -/
import Derived.Test.YtdkaagigbncofabNPure3
namespace Go.Proofs.Ytdkaagigbncofab
open Go.RowKit

/-- Behind the fetch: some bytes are heard, the others stand in the out buffer. -/
def E4 (s : Np) (z : List Nat) (k m : Nat) : Prop := ∃ x, One s 2 x 50 50 m ∧ x.cl = false ∧ x.ct = false ∧ x.o = z.drop k ∧ x.h = z.take k
/-- Ahead of it. -/
def E1 (s : Np) : Prop := ∃ x, One s 2 x 50 50 0 ∧ x.cl = false ∧ x.ct = false ∧ x.i = [] ∧ x.w = [] ∧ x.o = [] ∧ x.h = []
def E2 (s : Np) (y : List Nat) : Prop := ∃ x, One s 2 x 50 50 0 ∧ x.cl = false ∧ x.ct = false ∧ x.i = [] ∧ x.w = y ∧ x.o = [] ∧ x.h = []
def E3 (s : Np) (z : List Nat) (m : Nat) : Prop := ∃ x, One s 2 x 50 50 m ∧ x.cl = false ∧ x.ct = false ∧ x.o = z ∧ x.h = []
theorem e_new : openE (np0 50 50) 2 = 0 ∧ E1 (openS (np0 50 50) 2) := by
  obtain ⟨h1, h2⟩ := one_new (a := 50) (b := 50) (c := 2) (by decide)
  exact ⟨h1, _, h2, rfl, rfl, rfl, rfl, rfl, rfl⟩
theorem e_send {s : Np} (h : E1 s) {y : List Nat} (hy : y.length ≤ 50) : sendE s 2 y = 0 ∧ E2 (sendS s 2 y) y := by
  obtain ⟨x, h1, h2, h3, h4, h5, h6, h7⟩ := h
  obtain ⟨k1, x', k2, k3, k4, k5, k6, k7, k8⟩ := h1.sendX (shut_no h2 h3) (z := y) (by rw [h5]; simp; omega)
  exact ⟨k1, x', k2, by rw [k7, h2], by rw [k8, h3], by rw [k3, h4], by rw [k4, h5]; rfl, by rw [k5, h6], by rw [k6, h7]⟩
theorem e_bring {s : Np} {y : List Nat} (h : E2 s y) (hy : y.length ≤ 50) (some : Int) : s.m = 0 ∧ findE s 2 = 0 ∧ ∃ m, m ≤ 50 ∧ E3 (bringS s 2 some) [] m := by
  obtain ⟨x, h1, h2, h3, h4, h5, h6, h7⟩ := h
  obtain ⟨k1, x', k2, k3, k4, k5, k6, k7, k8⟩ := h1.bringX some rfl
  have hp : partN x.w.length (50 - x.i.length) some ≤ x.w.length := by unfold partN; omega
  rw [h5] at hp
  exact ⟨h1.m, h1.find, _, by rw [h5]; omega, x', k2, by rw [k7, h2], by rw [k8, h3], by rw [k5, h6], by rw [k6, h7]⟩
theorem e_write {s : Np} {z : List Nat} {m : Nat} (h : E3 s [] m) (hz : z.length ≤ 50) : useE s 2 = 0 ∧ E3 (writeS s 2 z) z m := by
  obtain ⟨x, h1, h2, h3, h4, h5⟩ := h
  obtain ⟨k1, x', k2, k3, k4, k5, k6, k7, k8⟩ := h1.writeX (shut_no h2 h3) z (k := z.length) (by rw [h4]; simp; omega)
  exact ⟨h1.use (shut_no h2 h3), x', k2, by rw [k7, h2], by rw [k8, h3], by rw [k5, h4]; simp, by rw [k6, h5]⟩
theorem e_fetch {s : Np} {z : List Nat} {m : Nat} (h : E3 s z m) (some : Int) : s.m = m ∧ findE s 2 = 0 ∧ fetchK s 2 some = min z.length some.toNat ∧ E4 (fetchS s 2 some) z (min z.length some.toNat) (m + min z.length some.toNat) := by
  obtain ⟨x, h1, h2, h3, h4, h5⟩ := h
  obtain ⟨k1, x', k2, k3, k4, k5, k6, k7, k8⟩ := h1.fetchX some (k := min z.length some.toNat) (by rw [h4])
  exact ⟨h1.m, h1.find, k1, x', k2, by rw [k7, h2], by rw [k8, h3], by rw [k5, h4], by rw [k6, h4, h5]; rfl⟩
/-- Behind the close, behind the cut: what is asked of it. -/
structure E5 (s : Np) (z : List Nat) (k n : Nat) (ct : Bool) (q : Nat) : Prop where
  io : isO s 2 = false
  it : isT s 2 = ct
  ui : undI s 2 = 0
  uo : undO s 2 = q
  hb : heardB s 2 = z.take k
  hn : heardN s 2 = (ct || decide (q = 0))
  ue : useE s 2 = 44
  tb : takeB s 2 = []
  ts : takeS s 2 = s
  wr : ∀ y, writeK s 2 y.length = 0 ∧ writeS s 2 y = s ∧ sendE s 2 y = 44 ∧ sendS s 2 y = s
  cl : closeS s 2 = s
  op : openE s 2 = 43 ∧ openS s 2 = s
  sm : s.m = n
  fe : findE s 2 = 0
  bk : bringK s 2 99 = 0
  bm : (bringS s 2 99).m = n
  bf : findE (bringS s 2 99) 2 = 0
  fk : fetchK (bringS s 2 99) 2 99 = q
  fm : (fetchS (bringS s 2 99) 2 99).m = n + q
  fh : heardB (fetchS (bringS s 2 99) 2 99) 2 = z.take (k + q)
  fn : heardN (fetchS (bringS s 2 99) 2 99) 2 = true
theorem e5_of {s : Np} {x : Cp} {z : List Nat} {k n q : Nat} (h : One s 2 x 50 50 n) (hw : x.w = []) (hi : x.i = []) (hh : x.h = z.take k) (ho : x.o = (z.drop k).take q) (hoq : x.o.length = q) (hq : q ≤ 50) (hcl : x.ct = false → x.cl = true) : E5 s z k n x.ct q ∧ ∃ x' n', One (fetchS (bringS s 2 99) 2 99) 2 x' 50 50 n' ∧ x'.ct = x.ct := by
  have hs : x.shut = true := by
    unfold Cp.shut
    cases hct : x.ct with
    | true => simp
    | false => rw [hcl hct]; rfl
  obtain ⟨a1, a2, a3, a4, a5, a6, a7⟩ := h.writeS_ hs []
  obtain ⟨b1, y, b2, b3, b4, b5, b6, b7, b8⟩ := h.bringX 99 (k := 0) (by unfold partN; rw [hw]; simp)
  obtain ⟨c1, v, c2, c3, c4, c5, c6, c7, c8⟩ := b2.fetchX 99 (k := q) (by rw [b5, hoq]; show min q 99 = q; omega)
  obtain ⟨d1, d2⟩ := h.isx
  obtain ⟨f1, f2⟩ := h.under
  obtain ⟨g1, g2⟩ := h.heard
  obtain ⟨i1, i2⟩ := c2.heard
  refine ⟨⟨by rw [d1, hs]; rfl, d2, by rw [f1, hw, hi]; rfl, by rw [f2, hoq], by rw [g1, hh], ?_, h.useS hs, a5, a6, fun y => ?_, a7, openE_old h, h.m, h.find, b1, by rw [b2.m]; omega, b2.find, c1, by rw [c2.m]; omega, ?_, ?_⟩, v, _, c2, by rw [c8, b8]⟩
  · rw [g2]
    unfold Cp.end_
    rw [hoq]
    cases hct : x.ct with
    | true => rfl
    | false => rw [hcl hct]; simp
  · obtain ⟨q1, q2, q3, q4, _⟩ := h.writeS_ hs y
    exact ⟨q1, q2, q3, q4⟩
  · rw [i1, c6, b6, b5, hh, ho, List.take_take, Nat.min_self, List.take_add]
  · rw [i2]
    unfold Cp.end_
    have e3 : v.o.length = 0 := by rw [c5, b5, List.length_drop]; omega
    rw [e3, c8, c7, b8, b7]
    cases hct : x.ct with
    | true => rfl
    | false => rw [hcl hct]; rfl
theorem e_close {s : Np} {z : List Nat} {k m : Nat} (h : E4 s z k m) (hz : z.length ≤ 50) : useE s 2 = 0 ∧ E5 (closeS s 2) z k m false (z.length - k) ∧ cutE (fetchS (bringS (closeS s 2) 2 99) 2 99) 2 = 0 ∧ cutE (cutS (fetchS (bringS (closeS s 2) 2 99) 2 99) 2) 2 = 44 := by
  obtain ⟨x, h1, h2, h3, h4, h5⟩ := h
  obtain ⟨y, k1, k2, k3, k4, k5, k6, k7⟩ := h1.closeX (shut_no h2 h3)
  obtain ⟨hE, v, n', j1, j2⟩ := e5_of (q := z.length - k) (k := k) (z := z) k1 k3 k2 (by rw [k5, h5]) (by rw [k4, h4, List.take_of_length_le (by rw [List.length_drop]; omega)]) (by rw [k4, h4, List.length_drop]) (by omega) (fun _ => k6)
  rw [k7, h3] at hE j2
  obtain ⟨l1, u, l2, _, _, _, _, _, l8⟩ := j1.cutX j2
  exact ⟨h1.use (shut_no h2 h3), hE, l1, (l2.cutS_ l8).1⟩
theorem e_cut {s : Np} {z : List Nat} {k m : Nat} (h : E4 s z k m) : cutE s 2 = 0 ∧ E5 (cutS s 2) z k m true 0 ∧ cutE (fetchS (bringS (cutS s 2) 2 99) 2 99) 2 = 44 := by
  obtain ⟨x, h1, h2, h3, h4, h5⟩ := h
  obtain ⟨k0, y, k1, k2, k3, k4, k5, k6, k7⟩ := h1.cutX h3
  obtain ⟨hE, v, n', j1, j2⟩ := e5_of (q := 0) (k := k) (z := z) k1 k3 k2 (by rw [k5, h5]) (by rw [k4]; simp) (by rw [k4]; rfl) (by omega) (fun e => by rw [k7] at e; cases e)
  rw [k7] at hE j2
  exact ⟨k0, hE, (j1.cutS_ j2).1⟩
end Go.Proofs.Ytdkaagigbncofab
