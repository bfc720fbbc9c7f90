/- NetCarries: a net and three rows of one's own beside it; what each step tells. -/
import Derived.Test.YtljkbnjdciljfaaNArgs
import Derived.Test.YtljkbnjdciljfaaNPure3
namespace Go.Proofs.Ytljkbnjdciljfaa
open Go.RowKit

theorem BsC.lo {w W : World} {v : Value} {xs : List Nat} (h : BsC w v xs) (hf : Fr w W (fun _ => False)) : BsC W v xs := h.fr hf (fun _ h => h.elim)
/-- A net, three rows, and blocks that stay. -/
def N6 (w W : World) (A : Nat) (s : Np) (v0 : Value) (l0 : List Nat) (v1 : Value) (l1 : List Nat) (v2 : Value) (l2 : List Nat) (S : Nat → Prop) : Prop := ∃ O, NO w W A s O ∧ Fr w W (fun _ => False) ∧ Rw W w.heap.size 5 v0 l0 ∧ Rw W w.heap.size 5 v1 l1 ∧ Rw W w.heap.size 5 v2 l2 ∧ (∀ k, v0.ownBlock = some k → ¬ O k ∧ ¬ S k ∧ v1.ownBlock ≠ some k ∧ v2.ownBlock ≠ some k) ∧ (∀ k, v1.ownBlock = some k → ¬ O k ∧ ¬ S k ∧ v2.ownBlock ≠ some k) ∧ (∀ k, v2.ownBlock = some k → ¬ O k ∧ ¬ S k) ∧ ∀ k, S k → ¬ O k ∧ w.heap.size ≤ k ∧ k < W.heap.size
theorem N6.fr {w W : World} {A : Nat} {s : Np} {v0 v1 v2 : Value} {l0 l1 l2 : List Nat} {S : Nat → Prop} (h : N6 w W A s v0 l0 v1 l1 v2 l2 S) : Fr w W (fun _ => False) := by
  obtain ⟨O, _, h, _⟩ := h
  exact h
theorem N6.r0 {w W : World} {A : Nat} {s : Np} {v0 v1 v2 : Value} {l0 l1 l2 : List Nat} {S : Nat → Prop} (h : N6 w W A s v0 l0 v1 l1 v2 l2 S) : Rw W w.heap.size 5 v0 l0 := by
  obtain ⟨O, _, _, h, _⟩ := h
  exact h
theorem N6.rot {w W : World} {A : Nat} {s : Np} {v0 v1 v2 : Value} {l0 l1 l2 : List Nat} {S : Nat → Prop} (h : N6 w W A s v0 l0 v1 l1 v2 l2 S) : N6 w W A s v1 l1 v2 l2 v0 l0 S := by
  obtain ⟨O, h1, h2, h3, h4, h5, h6, h7, h8, h9⟩ := h
  exact ⟨O, h1, h2, h4, h5, h3, fun k hk => ⟨(h7 k hk).1, (h7 k hk).2.1, (h7 k hk).2.2, fun e => (h6 k e).2.2.1 hk⟩, fun k hk => ⟨(h8 k hk).1, (h8 k hk).2, fun e => (h6 k e).2.2.2 hk⟩, fun k hk => ⟨(h6 k hk).1, (h6 k hk).2.1⟩, h9⟩
theorem N6.still {w W W' : World} {A : Nat} {s : Np} {v0 v1 v2 : Value} {l0 l1 l2 : List Nat} {S : Nat → Prop} (h : N6 w W A s v0 l0 v1 l1 v2 l2 S) (hf : Fr W W' (fun _ => False)) : N6 w W' A s v0 l0 v1 l1 v2 l2 S := by
  obtain ⟨O, h1, h2, h3, h4, h5, h6, h7, h8, h9⟩ := h
  exact ⟨O, h1.still hf, h2.trans hf, h3.fr hf (fun _ _ h => h), h4.fr hf (fun _ _ h => h), h5.fr hf (fun _ _ h => h), h6, h7, h8, fun k hk => ⟨(h9 k hk).1, (h9 k hk).2.1, Nat.lt_of_lt_of_le (h9 k hk).2.2 hf.size⟩⟩
theorem N6.box {w W W1 : World} {A N : Nat} {s : Np} {v0 v1 v2 : Value} {l0 l1 l2 : List Nat} {S : Nat → Prop} (h : N6 w W A s v0 l0 v1 l1 v2 l2 S) (hf : Fr W W1 (fun _ => False)) (hN : W.heap.size ≤ N) (hN2 : N < W1.heap.size) : N6 w W1 A s v0 l0 v1 l1 v2 l2 (fun k => k = N) := by
  obtain ⟨O, h1, h2, h3, h4, h5, h6, h7, h8, h9⟩ := h
  have hs := h2.size
  exact ⟨O, h1.still hf, h2.trans hf, h3.fr hf (fun _ _ h => h), h4.fr hf (fun _ _ h => h), h5.fr hf (fun _ _ h => h), fun k hk => ⟨(h6 k hk).1, fun e => by have := (h3.lt hk).2; omega, (h6 k hk).2.2⟩, fun k hk => ⟨(h7 k hk).1, fun e => by have := (h4.lt hk).2; omega, (h7 k hk).2.2⟩, fun k hk => ⟨(h8 k hk).1, fun e => by have := (h5.lt hk).2; omega⟩, fun k e => ⟨fun ho => by have := h1.lt ho; omega, by omega, by omega⟩⟩
theorem N6.forget {w W : World} {A : Nat} {s : Np} {v0 v1 v2 : Value} {l0 l1 l2 : List Nat} {S : Nat → Prop} (h : N6 w W A s v0 l0 v1 l1 v2 l2 S) : N6 w W A s v0 l0 v1 l1 v2 l2 (fun _ => False) := by
  obtain ⟨O, h1, h2, h3, h4, h5, h6, h7, h8, h9⟩ := h
  exact ⟨O, h1, h2, h3, h4, h5, fun k hk => ⟨(h6 k hk).1, fun h => h, (h6 k hk).2.2⟩, fun k hk => ⟨(h7 k hk).1, fun h => h, (h7 k hk).2.2⟩, fun k hk => ⟨(h8 k hk).1, fun h => h⟩, fun k h => h.elim⟩
theorem N6.left {w W W' : World} {A : Nat} {s s' : Np} {v0 v1 v2 : Value} {l0 l1 l2 : List Nat} {S O : Nat → Prop} (h1 : NO w W A s O) (h2 : Fr w W (fun _ => False)) (h3 : Rw W w.heap.size 5 v0 l0) (h4 : Rw W w.heap.size 5 v1 l1) (h5 : Rw W w.heap.size 5 v2 l2) (h6 : ∀ k, v0.ownBlock = some k → ¬ O k ∧ ¬ S k ∧ v1.ownBlock ≠ some k ∧ v2.ownBlock ≠ some k) (h7 : ∀ k, v1.ownBlock = some k → ¬ O k ∧ ¬ S k ∧ v2.ownBlock ≠ some k) (h8 : ∀ k, v2.ownBlock = some k → ¬ O k ∧ ¬ S k) (h9 : ∀ k, S k → ¬ O k ∧ w.heap.size ≤ k ∧ k < W.heap.size) (hA : NA w W W' A s' O) : N6 w W' A s' v0 l0 v1 l1 v2 l2 S ∧ ∀ k, S k → W'.heap[k]? = W.heap[k]? := by
  obtain ⟨O', k1, k2, k3⟩ := hA
  have new : ∀ k, k < W.heap.size → ¬ O k → ¬ O' k := fun k hk ho h => by
    rcases k2 k h with h | h
    · exact ho h
    · omega
  exact ⟨⟨O', k1, h2.trans2 k3 (fun k hk ho => by have := h1.lo k ho; omega), h3.fr k3 (fun k hk => (h6 k hk).1), h4.fr k3 (fun k hk => (h7 k hk).1), h5.fr k3 (fun k hk => (h8 k hk).1), fun k hk => ⟨new k (h3.lt hk).2 (h6 k hk).1, (h6 k hk).2⟩, fun k hk => ⟨new k (h4.lt hk).2 (h7 k hk).1, (h7 k hk).2⟩, fun k hk => ⟨new k (h5.lt hk).2 (h8 k hk).1, (h8 k hk).2⟩, fun k hs => ⟨new k (h9 k hs).2.2 (h9 k hs).1, (h9 k hs).2.1, Nat.lt_of_lt_of_le (h9 k hs).2.2 k3.size⟩⟩, fun k hs => k3.block k (h9 k hs).2.2 (h9 k hs).1⟩
/-- Behind an append to the first row. -/
theorem N6.grow {w W W' : World} {A : Nat} {s : Np} {v0 v1 v2 v' : Value} {l0 l1 l2 l' : List Nat} {S : Nat → Prop} (h : N6 w W A s v0 l0 v1 l1 v2 l2 S) (k1 : Rw W' w.heap.size 5 v' l') (k2 : Fr W W' (fun k => v0.ownBlock = some k)) (k3 : Nw W v0 v') : N6 w W' A s v' l' v1 l1 v2 l2 S ∧ ∀ k, S k → W'.heap[k]? = W.heap[k]? := by
  obtain ⟨O, h1, h2, h3, h4, h5, h6, h7, h8, h9⟩ := h
  refine ⟨⟨O, h1.step k2 (fun k ho hv => (h6 k hv).1 ho), h2.trans2 k2 (fun k hk hv => by have := (h3.lt hv).1; omega), k1, h4.fr k2 (fun k hk hv => (h6 k hv).2.2.1 hk), h5.fr k2 (fun k hk hv => (h6 k hv).2.2.2 hk), fun k hk => ?_, h7, h8, fun k hs => ⟨(h9 k hs).1, (h9 k hs).2.1, Nat.lt_of_lt_of_le (h9 k hs).2.2 k2.size⟩⟩, fun k hs => k2.block k (h9 k hs).2.2 (fun hv => (h6 k hv).2.1 hs)⟩
  rcases k3 k hk with h | h
  · exact h6 k h
  · exact ⟨fun ho => by have := h1.lt ho; omega, fun hs => by have := (h9 k hs).2.2; omega, fun hv => by have := (h4.lt hv).2; omega, fun hv => by have := (h5.lt hv).2; omega⟩
theorem N6.start {w w1 : World} {A a b : Nat} {O : Nat → Prop} (h1 : NO w w1 A (np0 a b) O) (hf1 : Fr w w1 (fun _ => False)) : N6 w w1 A (np0 a b) (.slice none 0 0) [] (.slice none 0 0) [] (.slice none 0 0) [] (fun _ => False) :=
  ⟨O, h1, hf1, Rw.nil _ _ _, Rw.nil _ _ _, Rw.nil _ _ _, fun k hk => by simp [Value.ownBlock] at hk, fun k hk => by simp [Value.ownBlock] at hk, fun k hk => by simp [Value.ownBlock] at hk, fun k h => h.elim⟩
theorem N6.open {w W : World} {A : Nat} {s : Np} {v0 v1 v2 : Value} {l0 l1 l2 : List Nat} {S : Nat → Prop} (h : N6 w W A s v0 l0 v1 l1 v2 l2 S) (c : Int) : Calls Try.prog 16 #[.pointer (some ⟨A, 0, none⟩), .int .i64 c] W fun e w' => e = .returned (.int .i64 (openE s c)) ∧ N6 w w' A (openS s c) v0 l0 v1 l1 v2 l2 S := by
  obtain ⟨O, h1, h2, h3, h4, h5, h6, h7, h8, h9⟩ := h
  exact (h1.open c).mono fun e w' ⟨he, ha⟩ => ⟨he, (N6.left h1 h2 h3 h4 h5 h6 h7 h8 h9 ha).1⟩
theorem N6.send {w W : World} {A : Nat} {s : Np} {v0 v1 v2 : Value} {l0 l1 l2 : List Nat} {S : Nat → Prop} (h : N6 w W A s v0 l0 v1 l1 v2 l2 S) (c : Int) {ao : Option Addr} {cap : Nat} {z : List Nat} (hb : BsC w (.slice ao z.length cap) z) : Calls Try.prog 17 #[.pointer (some ⟨A, 0, none⟩), .int .i64 c, .slice ao z.length cap] W fun e w' => e = .returned (.int .i64 (sendE s c z)) ∧ N6 w w' A (sendS s c z) v0 l0 v1 l1 v2 l2 S ∧ ∀ k, S k → w'.heap[k]? = W.heap[k]? := by
  obtain ⟨O, h1, h2, h3, h4, h5, h6, h7, h8, h9⟩ := h
  obtain ⟨q1, q2, q3, q4, q5, q6, q7⟩ := hb.lo h2
  simp only [Value.slice.injEq] at q3
  obtain ⟨rfl, _, rfl⟩ := q3
  exact (h1.send c rfl q6 q4).mono fun e w' ⟨he, ha⟩ => ⟨he, N6.left h1 h2 h3 h4 h5 h6 h7 h8 h9 ha⟩
theorem N6.write {w W : World} {A : Nat} {s : Np} {v0 v1 v2 : Value} {l0 l1 l2 : List Nat} {S : Nat → Prop} (h : N6 w W A s v0 l0 v1 l1 v2 l2 S) (c : Int) {ao : Option Addr} {cap : Nat} {z : List Nat} (hb : BsC w (.slice ao z.length cap) z) : Calls Try.prog 23 #[.pointer (some ⟨A, 0, none⟩), .int .i64 c, .slice ao z.length cap] W fun e w' => e = .returned (.tuple #[.int .i64 (writeK s c z.length : Int), .int .i64 (useE s c)]) ∧ N6 w w' A (writeS s c z) v0 l0 v1 l1 v2 l2 S ∧ ∀ k, S k → w'.heap[k]? = W.heap[k]? := by
  obtain ⟨O, h1, h2, h3, h4, h5, h6, h7, h8, h9⟩ := h
  obtain ⟨q1, q2, q3, q4, q5, q6, q7⟩ := hb.lo h2
  simp only [Value.slice.injEq] at q3
  obtain ⟨rfl, _, rfl⟩ := q3
  exact (h1.write c rfl q6 q4).mono fun e w' ⟨he, ha⟩ => ⟨he, N6.left h1 h2 h3 h4 h5 h6 h7 h8 h9 ha⟩
theorem N6.bring {w W : World} {A : Nat} {s : Np} {v0 v1 v2 : Value} {l0 l1 l2 : List Nat} {S : Nat → Prop} (h : N6 w W A s v0 l0 v1 l1 v2 l2 S) (hm : s.m ≤ 70368744177664) (c most : Int) : Calls Try.prog 18 #[.pointer (some ⟨A, 0, none⟩), .int .i64 c, .int .i64 most] W fun e w' => e = .returned (.tuple #[.int .i64 (bringK s c most : Int), .int .i64 (findE s c)]) ∧ N6 w w' A (bringS s c most) v0 l0 v1 l1 v2 l2 S ∧ ∀ k, S k → w'.heap[k]? = W.heap[k]? := by
  obtain ⟨O, h1, h2, h3, h4, h5, h6, h7, h8, h9⟩ := h
  exact (h1.bring hm c most).mono fun e w' ⟨he, ha⟩ => ⟨he, N6.left h1 h2 h3 h4 h5 h6 h7 h8 h9 ha⟩
theorem N6.fetch {w W : World} {A : Nat} {s : Np} {v0 v1 v2 : Value} {l0 l1 l2 : List Nat} {S : Nat → Prop} (h : N6 w W A s v0 l0 v1 l1 v2 l2 S) (hm : s.m ≤ 70368744177664) (c most : Int) : Calls Try.prog 24 #[.pointer (some ⟨A, 0, none⟩), .int .i64 c, .int .i64 most] W fun e w' => e = .returned (.tuple #[.int .i64 (fetchK s c most : Int), .int .i64 (findE s c)]) ∧ N6 w w' A (fetchS s c most) v0 l0 v1 l1 v2 l2 S ∧ ∀ k, S k → w'.heap[k]? = W.heap[k]? := by
  obtain ⟨O, h1, h2, h3, h4, h5, h6, h7, h8, h9⟩ := h
  exact (h1.fetch hm c most).mono fun e w' ⟨he, ha⟩ => ⟨he, N6.left h1 h2 h3 h4 h5 h6 h7 h8 h9 ha⟩
theorem N6.take {w W : World} {A : Nat} {s : Np} {v0 v1 v2 : Value} {l0 l1 l2 : List Nat} {S : Nat → Prop} (h : N6 w W A s v0 l0 v1 l1 v2 l2 S) (c : Int) : Calls Try.prog 22 #[.pointer (some ⟨A, 0, none⟩), .int .i64 c] W fun e w' => ∃ v, e = .returned (.tuple #[v, .int .i64 (useE s c)]) ∧ Rw w' w.heap.size 5 v (takeB s c) ∧ N6 w w' A (takeS s c) v0 l0 v1 l1 v2 l2 S ∧ ∀ k, S k → w'.heap[k]? = W.heap[k]? := by
  obtain ⟨O, h1, h2, h3, h4, h5, h6, h7, h8, h9⟩ := h
  refine (h1.take c).mono fun e w' ⟨v, he, O', k1, k2, k3, k4, k5⟩ => ⟨v, he, k4, N6.left h1 h2 h3 h4 h5 h6 h7 h8 h9 ⟨O', k1, k2, k3⟩⟩
theorem N6.heard {w W : World} {A : Nat} {s : Np} {v0 v1 v2 : Value} {l0 l1 l2 : List Nat} {S : Nat → Prop} (h : N6 w W A s v0 l0 v1 l1 v2 l2 S) (hm : s.m ≤ 70368744177664) (c : Int) : Calls Try.prog 25 #[.pointer (some ⟨A, 0, none⟩), .int .i64 c] W fun e w' => ∃ u, e = .returned (.tuple #[u, .bool (heardN s c)]) ∧ Rw w' W.heap.size 5 u (heardB s c) ∧ N6 w w' A s v0 l0 v1 l1 v2 l2 S ∧ Fr W w' (fun _ => False) := by
  have h' := h
  obtain ⟨O, h1, _⟩ := h
  exact (h1.heard hm c).mono fun e w' ⟨u, he, k1, k2⟩ => ⟨u, he, k1, h'.still k2, k2⟩
theorem N6.under {w W : World} {A : Nat} {s : Np} {v0 v1 v2 : Value} {l0 l1 l2 : List Nat} {S : Nat → Prop} (h : N6 w W A s v0 l0 v1 l1 v2 l2 S) (c : Int) : Calls Try.prog 19 #[.pointer (some ⟨A, 0, none⟩), .int .i64 c] W fun e w' => e = .returned (.tuple #[.int .i64 (undI s c : Int), .int .i64 (undO s c : Int)]) ∧ N6 w w' A s v0 l0 v1 l1 v2 l2 S ∧ Fr W w' (fun _ => False) := by
  have h' := h
  obtain ⟨O, h1, _⟩ := h
  exact (h1.under c).mono fun e w' ⟨he, k2⟩ => ⟨he, h'.still k2, k2⟩
theorem N6.moved {w W : World} {A : Nat} {s : Np} {v0 v1 v2 : Value} {l0 l1 l2 : List Nat} {S : Nat → Prop} (h : N6 w W A s v0 l0 v1 l1 v2 l2 S) : Calls Try.prog 20 #[.pointer (some ⟨A, 0, none⟩)] W fun e w' => e = .returned (.int .i64 (s.m : Int)) ∧ w' = W := by
  obtain ⟨O, h1, _⟩ := h
  exact h1.moved
/-- What stands at a round's beginning: all that was sent, taken, written; how many were brought and moved. -/
structure CS (s : Np) (a b : Nat) (se to_ wr : List Nat) (br mo n : Nat) (x : Cp) : Prop where
  one : One s 7 x a b mo
  cl : x.cl = false
  ct : x.ct = false
  seq : se = to_ ++ x.i ++ x.w
  brq : br = to_.length + x.i.length
  wrq : wr = x.h ++ x.o
  il : x.i.length ≤ a
  ol : x.o.length ≤ b
  sl : se.length ≤ n * 100
  wl : wr.length ≤ n * 40
  ml : mo ≤ n * 80
theorem CS.hm {s : Np} {a b br mo n : Nat} {se to_ wr : List Nat} {x : Cp} (h : CS s a b se to_ wr br mo n x) (hn : n ≤ 1000) : s.m ≤ 70368744177664 := by
  rw [h.one.m]
  have := h.ml
  exact Nat.le_trans this (Nat.le_trans (Nat.mul_le_mul_right 80 hn) (by decide))
theorem CS.next {s : Np} {a b br mo n : Nat} {se to_ wr : List Nat} {x : Cp} (h : CS s a b se to_ wr br mo n x) : CS s a b se to_ wr br mo (n + 1) x :=
  ⟨h.one, h.cl, h.ct, h.seq, h.brq, h.wrq, h.il, h.ol, by have := h.sl; omega, by have := h.wl; omega, by have := h.ml; omega⟩
theorem CS.send {s : Np} {a b br mo n : Nat} {se to_ wr : List Nat} {x : Cp} (h : CS s a b se to_ wr br mo n x) (hn : n ≤ 1000) {z : List Nat} (hz : z.length ≤ 100) : sendE s 7 z = 0 ∧ ∃ y, CS (sendS s 7 z) a b (se ++ z) to_ wr br mo (n + 1) y := by
  have hw : x.w.length ≤ n * 100 := by
    have := h.sl
    rw [h.seq, List.length_append] at this
    omega
  obtain ⟨e1, y, y1, y2, y3, y4, y5, y6, y7⟩ := h.one.sendX (shut_no h.cl h.ct) (z := z) (by omega)
  exact ⟨e1, y, y1, by rw [y6, h.cl], by rw [y7, h.ct], by rw [y2, y3, h.seq]; simp, by rw [y2]; exact h.brq, by rw [y5, y4]; exact h.wrq, by rw [y2]; exact h.il, by rw [y4]; exact h.ol, by rw [List.length_append]; have := h.sl; omega, by have := h.wl; omega, by have := h.ml; omega⟩
theorem CS.bring {s : Np} {a b br mo n : Nat} {se to_ wr : List Nat} {x : Cp} (h : CS s a b se to_ wr br mo n x) (most : Int) (ha : a ≤ 40) : findE s 7 = 0 ∧ ∃ k y, bringK s 7 most = k ∧ (k : Int) ≤ max 0 most ∧ br + k ≤ se.length ∧ br + k ≤ a + to_.length ∧ ((k : Int) < most → br + k < se.length → ¬ br + k < a + to_.length) ∧ CS (bringS s 7 most) a b se to_ wr (br + k) (mo + k) (n + 1) y := by
  obtain ⟨e1, y, y1, y2, y3, y4, y5, y6, y7⟩ := h.one.bringX most rfl
  have hl : se.length = to_.length + x.i.length + x.w.length := by rw [h.seq]; simp; omega
  have hbr := h.brq
  have hil := h.il
  have hk1 : (partN x.w.length (a - x.i.length) most : Int) ≤ max 0 most := by unfold partN; omega
  have hk2 : partN x.w.length (a - x.i.length) most ≤ x.w.length := by unfold partN; omega
  have hk3 : partN x.w.length (a - x.i.length) most ≤ a - x.i.length := by unfold partN; omega
  have hk4 : (partN x.w.length (a - x.i.length) most : Int) < most → partN x.w.length (a - x.i.length) most < x.w.length → partN x.w.length (a - x.i.length) most = a - x.i.length := by unfold partN; omega
  generalize partN x.w.length (a - x.i.length) most = k at *
  refine ⟨h.one.find, k, y, e1, hk1, by omega, by omega, fun p1 p2 p3 => ?_, y1, by rw [y6, h.cl], by rw [y7, h.ct], ?_, ?_, by rw [y5, y4]; exact h.wrq, ?_, by rw [y4]; exact h.ol, by have := h.sl; omega, by have := h.wl; omega, by have := h.ml; omega⟩
  · have := hk4 p1 (by omega)
    omega
  · rw [y2, y3, h.seq]
    simp
  · rw [y2, List.length_append, List.length_take]; omega
  · rw [y2, List.length_append, List.length_take]; omega
theorem CS.take {s : Np} {a b br mo n : Nat} {se to_ wr : List Nat} {x : Cp} (h : CS s a b se to_ wr br mo n x) : useE s 7 = 0 ∧ takeB s 7 = x.i ∧ (to_ ++ x.i).length = br ∧ to_ ++ x.i = se.take (to_ ++ x.i).length ∧ (to_ ++ x.i).length ≤ se.length ∧ ∃ y, CS (takeS s 7) a b se (to_ ++ x.i) wr br mo (n + 1) y := by
  obtain ⟨e1, y, y1, y2, y3, y4, y5, y6, y7⟩ := h.one.takeX (shut_no h.cl h.ct)
  refine ⟨h.one.use (shut_no h.cl h.ct), e1, by rw [List.length_append]; exact h.brq.symm, by rw [h.seq, List.take_left], by rw [h.seq]; simp, y, y1, by rw [y6, h.cl], by rw [y7, h.ct], by rw [y2, y3, h.seq]; simp, by rw [y2]; simp; exact h.brq, by rw [y5, y4]; exact h.wrq, by rw [y2]; simp, by rw [y4]; exact h.ol, by have := h.sl; omega, by have := h.wl; omega, by have := h.ml; omega⟩
theorem CS.write {s : Np} {a b br mo n : Nat} {se to_ wr : List Nat} {x : Cp} (h : CS s a b se to_ wr br mo n x) (z : List Nat) (hb : b ≤ 40) : useE s 7 = 0 ∧ ∃ k y, writeK s 7 z.length = k ∧ (k : Int) = min (z.length : Int) ((b : Int) - ((wr.length : Int) - (x.h.length : Int))) ∧ k ≤ z.length ∧ k ≤ 40 ∧ CS (writeS s 7 z) a b se to_ (wr ++ z.take k) br mo (n + 1) y := by
  obtain ⟨e1, y, y1, y2, y3, y4, y5, y6, y7⟩ := h.one.writeX (shut_no h.cl h.ct) z rfl
  have hl : wr.length = x.h.length + x.o.length := by rw [h.wrq]; simp
  have hol := h.ol
  refine ⟨h.one.use (shut_no h.cl h.ct), min z.length (b - x.o.length), y, e1, by omega, by omega, by omega, y1, by rw [y6, h.cl], by rw [y7, h.ct], by rw [y2, y3]; exact h.seq, by rw [y2]; exact h.brq, by rw [y5, y4, h.wrq]; simp, by rw [y2]; exact h.il, ?_, by have := h.sl; omega, ?_, by have := h.ml; omega⟩
  · rw [y4, List.length_append, List.length_take]; omega
  · rw [List.length_append, List.length_take]; have := h.wl; omega
theorem CS.fetch {s : Np} {a b br mo n : Nat} {se to_ wr : List Nat} {x : Cp} (h : CS s a b se to_ wr br mo n x) (most : Int) (hb : b ≤ 40) : findE s 7 = 0 ∧ ∃ k y, fetchK s 7 most = k ∧ k ≤ 40 ∧ (k : Int) = max 0 (min most ((wr.length : Int) - (x.h.length : Int))) ∧ y.h.length = x.h.length + k ∧ y.h.length ≤ wr.length ∧ y.h = wr.take y.h.length ∧ CS (fetchS s 7 most) a b se to_ wr br (mo + k) (n + 1) y := by
  obtain ⟨e1, y, y1, y2, y3, y4, y5, y6, y7⟩ := h.one.fetchX most rfl
  have hl : wr.length = x.h.length + x.o.length := by rw [h.wrq]; simp
  have hol := h.ol
  have hk : min x.o.length most.toNat ≤ x.o.length := by omega
  have hk2 : ((min x.o.length most.toNat : Nat) : Int) = max 0 (min most ((wr.length : Int) - (x.h.length : Int))) := by omega
  generalize min x.o.length most.toNat = k at *
  have hyl : y.h.length = x.h.length + k := by rw [y5, List.length_append, List.length_take]; omega
  have hwr : wr = y.h ++ y.o := by rw [y5, y4, h.wrq]; simp
  refine ⟨h.one.find, k, y, e1, by omega, hk2, hyl, by omega, by rw [hwr]; simp, y1, by rw [y6, h.cl], by rw [y7, h.ct], by rw [y2, y3]; exact h.seq, by rw [y2]; exact h.brq, hwr, by rw [y2]; exact h.il, ?_, by have := h.sl; omega, by have := h.wl; omega, by have := h.ml; omega⟩
  rw [y4, List.length_drop]; omega
theorem CS.ask {s : Np} {a b br mo n : Nat} {se to_ wr : List Nat} {x : Cp} (h : CS s a b se to_ wr br mo n x) : heardB s 7 = x.h ∧ heardN s 7 = false ∧ undI s 7 + to_.length = se.length ∧ undO s 7 + x.h.length = wr.length ∧ s.m = mo := by
  refine ⟨h.one.heard.1, ?_, ?_, ?_, h.one.m⟩
  · rw [h.one.heard.2]
    unfold Cp.end_
    rw [h.cl, h.ct]
    rfl
  · rw [h.one.under.1, h.seq]; simp; omega
  · rw [h.one.under.2, h.wrq]; simp; omega
theorem cs_new {a b : Nat} : openE (np0 a b) 7 = 0 ∧ CS (openS (np0 a b) 7) a b [] [] [] 0 0 0 cp0 := by
  obtain ⟨h1, h2⟩ := one_new (a := a) (b := b) (c := 7) (by decide)
  exact ⟨h1, h2, rfl, rfl, rfl, rfl, rfl, by simp [cp0], by simp [cp0], by simp, by simp, by simp⟩
end Go.Proofs.Ytljkbnjdciljfaa
