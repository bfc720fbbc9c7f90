/- NetApart: one step of a connection, and of another one. -/
import Derived.Test.YtdkaagigbncofaaNDid
namespace Go.Proofs.Ytdkaagigbncofaa
open Go.RowKit

theorem One.idle {s : Np} {c : Int} {x : Cp} {a b m : Nat} (h : One s c x a b m) : One s c x a b (m + 0) := h
/-- A step of connection 3 hangs on it alone. -/
theorem did_one (x : Cp) (a b : Nat) (st : Sp) (hc : st.c = 3) (hi : x.i.length ≤ a) (ha : a ≤ 131072) (ho : x.o.length ≤ 131072) : ∃ (E : Int) (T : ByteArray) (y : Cp) (j : Nat), j ≤ 131072 ∧ ∀ s m, One s 3 x a b m → didE s st = E ∧ didT s st = T ∧ One (didS s st) 3 y a b (m + j) := by
  obtain ⟨k, c, z, most⟩ := st
  dsimp only at hc
  subst hc
  by_cases h1 : k = 1
  · subst h1
    refine ⟨43, ⟨#[]⟩, x, 0, by omega, fun s m h => ?_⟩
    obtain ⟨e1, e2⟩ := openE_old h
    exact ⟨e1, rfl, by show One (openS s 3) 3 x a b m; rw [e2]; exact h⟩
  by_cases h2 : k = 2
  · subst h2
    cases hs : x.shut with
    | true =>
      refine ⟨44, ⟨#[]⟩, x, 0, by omega, fun s m h => ?_⟩
      obtain ⟨_, _, e1, e2, _⟩ := h.writeS_ hs z
      exact ⟨e1, rfl, by show One (sendS s 3 z) 3 x a b m; rw [e2]; exact h⟩
    | false =>
      by_cases hl : x.w.length + z.length ≤ 1048576
      · refine ⟨0, ⟨#[]⟩, { x with w := x.w ++ z }, 0, by omega, fun s m h => ?_⟩
        obtain ⟨e1, e2⟩ := h.send hs hl
        exact ⟨e1, rfl, by show One (sendS s 3 z) 3 _ a b m; rw [e2]; exact h.upd _ 0⟩
      · refine ⟨2, ⟨#[]⟩, x, 0, by omega, fun s m h => ?_⟩
        obtain ⟨e1, e2⟩ := h.sendMany hs (z := z) (by omega)
        exact ⟨e1, rfl, by show One (sendS s 3 z) 3 x a b m; rw [e2]; exact h⟩
  by_cases h3 : k = 3
  · subst h3
    refine ⟨0, str8 (List.replicate (partN x.w.length (a - x.i.length) most) 0), { x with i := x.i ++ x.w.take (partN x.w.length (a - x.i.length) most), w := x.w.drop (partN x.w.length (a - x.i.length) most) }, partN x.w.length (a - x.i.length) most, by unfold partN; omega, fun s m h => ?_⟩
    obtain ⟨e1, e2⟩ := h.bring most
    exact ⟨h.find, by show str8 (List.replicate (bringK s 3 most) 0) = _; rw [e1], by show One (bringS s 3 most) 3 _ a b _; rw [e2]; exact h.upd _ _⟩
  by_cases h4 : k = 4
  · subst h4
    cases hs : x.shut with
    | true =>
      refine ⟨44, str8 [], x, 0, by omega, fun s m h => ?_⟩
      obtain ⟨_, _, _, _, e1, e2, _⟩ := h.writeS_ hs z
      exact ⟨h.useS hs, by show str8 (takeB s 3) = _; rw [e1], by show One (takeS s 3) 3 x a b m; rw [e2]; exact h⟩
    | false =>
      refine ⟨0, str8 x.i, { x with i := [] }, 0, by omega, fun s m h => ?_⟩
      obtain ⟨e1, e2⟩ := h.take hs
      exact ⟨h.use hs, by show str8 (takeB s 3) = _; rw [e1], by show One (takeS s 3) 3 _ a b m; rw [e2]; exact h.upd _ 0⟩
  by_cases h5 : k = 5
  · subst h5
    cases hs : x.shut with
    | true =>
      refine ⟨44, str8 (List.replicate 0 0), x, 0, by omega, fun s m h => ?_⟩
      obtain ⟨e1, e2, _⟩ := h.writeS_ hs z
      exact ⟨h.useS hs, by show str8 (List.replicate (writeK s 3 z.length) 0) = _; rw [e1], by show One (writeS s 3 z) 3 x a b m; rw [e2]; exact h⟩
    | false =>
      refine ⟨0, str8 (List.replicate (min z.length (b - x.o.length)) 0), { x with o := x.o ++ z.take (min z.length (b - x.o.length)) }, 0, by omega, fun s m h => ?_⟩
      obtain ⟨e1, e2⟩ := h.write hs z
      exact ⟨h.use hs, by show str8 (List.replicate (writeK s 3 z.length) 0) = _; rw [e1], by show One (writeS s 3 z) 3 _ a b m; rw [e2]; exact h.upd _ 0⟩
  by_cases h6 : k = 6
  · subst h6
    refine ⟨0, str8 (List.replicate (min x.o.length most.toNat) 0), { x with h := x.h ++ x.o.take (min x.o.length most.toNat), o := x.o.drop (min x.o.length most.toNat) }, min x.o.length most.toNat, by omega, fun s m h => ?_⟩
    obtain ⟨e1, e2⟩ := h.fetch most
    exact ⟨h.find, by show str8 (List.replicate (fetchK s 3 most) 0) = _; rw [e1], by show One (fetchS s 3 most) 3 _ a b _; rw [e2]; exact h.upd _ _⟩
  by_cases h7 : k = 7
  · subst h7
    cases hs : x.shut with
    | true =>
      refine ⟨44, ⟨#[]⟩, x, 0, by omega, fun s m h => ?_⟩
      obtain ⟨_, _, _, _, _, _, e2⟩ := h.writeS_ hs z
      exact ⟨h.useS hs, rfl, by show One (closeS s 3) 3 x a b m; rw [e2]; exact h⟩
    | false =>
      refine ⟨0, ⟨#[]⟩, { x with cl := true, w := [], i := [] }, 0, by omega, fun s m h => ?_⟩
      have e2 := h.close hs
      exact ⟨h.use hs, rfl, by show One (closeS s 3) 3 _ a b m; rw [e2]; exact h.upd _ 0⟩
  by_cases h8 : k = 8
  · subst h8
    cases hs : x.ct with
    | true =>
      refine ⟨44, ⟨#[]⟩, x, 0, by omega, fun s m h => ?_⟩
      obtain ⟨e1, e2⟩ := h.cutS_ hs
      exact ⟨e1, rfl, by show One (cutS s 3) 3 x a b m; rw [e2]; exact h⟩
    | false =>
      refine ⟨0, ⟨#[]⟩, { x with ct := true, w := [], i := [], o := [] }, 0, by omega, fun s m h => ?_⟩
      obtain ⟨e1, e2⟩ := h.cut hs
      exact ⟨e1, rfl, by show One (cutS s 3) 3 _ a b m; rw [e2]; exact h.upd _ 0⟩
  refine ⟨0, ⟨#[]⟩, x, 0, by omega, fun s m h => ⟨?_, ?_, ?_⟩⟩
  · unfold didE; simp [h1, h2, h3, h4, h5, h6, h7, h8]
  · unfold didT; simp [h3, h4, h5, h6]
  · have e3 : didS s ⟨k, 3, z, most⟩ = s := by unfold didS; simp [h1, h2, h3, h4, h5, h6, h7, h8]
    rw [e3]; exact h
/-- A step of another connection leaves it. -/
theorem did_other {s : Np} {x : Cp} {a b m : Nat} (h : One s 3 x a b m) (hw : Wf s) (st : Sp) (hc : st.c ≠ 3) : ∃ j, j ≤ 131072 ∧ One (didS s st) 3 x a b (m + j) := by
  obtain ⟨k, c, z, most⟩ := st
  dsimp only at hc
  have key : ∀ (y : Cp) (j : Nat), isC c = true → j ≤ 131072 → ∃ j, j ≤ 131072 ∧ One (s.upd c y j) 3 x a b (m + j) ∧ True := fun y j h1 h2 => ⟨j, h2, h.other h1 hc, trivial⟩
  have same : ∃ j, j ≤ 131072 ∧ One s 3 x a b (m + j) := ⟨0, by omega, h⟩
  have ha := hw.a.2
  have hb := hw.b.2
  unfold didS
  dsimp only
  by_cases h1 : k = 1
  · rw [if_pos h1]
    unfold openS
    split
    · rename_i h9
      exact ⟨0, by omega, h.other h9.1 hc⟩
    · exact same
  rw [if_neg h1]
  by_cases h2 : k = 2
  · rw [if_pos h2]
    unfold sendS
    cases hx : s.at c with
    | none => exact same
    | some y =>
      dsimp only
      split
      · exact same
      · split
        · exact same
        · exact ⟨0, by omega, h.other (at_some hx).1 hc⟩
  rw [if_neg h2]
  by_cases h3 : k = 3
  · rw [if_pos h3]
    unfold bringS
    cases hx : s.at c with
    | none => exact same
    | some y =>
      refine ⟨bringK s c most, ?_, h.other (at_some hx).1 hc⟩
      unfold bringK partN
      rw [hx]
      dsimp only
      omega
  rw [if_neg h3]
  by_cases h4 : k = 4
  · rw [if_pos h4]
    unfold takeS
    cases hx : s.at c with
    | none => exact same
    | some y =>
      dsimp only
      split
      · exact same
      · exact ⟨0, by omega, h.other (at_some hx).1 hc⟩
  rw [if_neg h4]
  by_cases h5 : k = 5
  · rw [if_pos h5]
    unfold writeS
    cases hx : s.at c with
    | none => exact same
    | some y =>
      dsimp only
      split
      · exact same
      · exact ⟨0, by omega, h.other (at_some hx).1 hc⟩
  rw [if_neg h5]
  by_cases h6 : k = 6
  · rw [if_pos h6]
    unfold fetchS
    cases hx : s.at c with
    | none => exact same
    | some y =>
      refine ⟨fetchK s c most, ?_, h.other (at_some hx).1 hc⟩
      have := (wf_at hw hx).2.2.1
      unfold fetchK
      rw [hx]
      dsimp only
      omega
  rw [if_neg h6]
  by_cases h7 : k = 7
  · rw [if_pos h7]
    unfold closeS
    cases hx : s.at c with
    | none => exact same
    | some y =>
      dsimp only
      split
      · exact same
      · exact ⟨0, by omega, h.other (at_some hx).1 hc⟩
  rw [if_neg h7]
  by_cases h8 : k = 8
  · rw [if_pos h8]
    unfold cutS
    cases hx : s.at c with
    | none => exact same
    | some y =>
      dsimp only
      split
      · exact same
      · exact ⟨0, by omega, h.other (at_some hx).1 hc⟩
  rw [if_neg h8]
  exact same
/-- Two nets apart, and blocks beside them. -/
def N2 (w W : World) (A B : Nat) (s t : Np) (P : List (Nat × Obj)) : Prop := ∃ O Q, NO w W A s O ∧ NO w W B t Q ∧ Fr w W (fun _ => False) ∧ (∀ k, O k → ¬ Q k) ∧ ∀ p ∈ P, W.heap[p.1]? = some p.2 ∧ ¬ O p.1 ∧ ¬ Q p.1
theorem N2.fr {w W : World} {A B : Nat} {s t : Np} {P : List (Nat × Obj)} (h : N2 w W A B s t P) : Fr w W (fun _ => False) := by
  obtain ⟨O, Q, _, _, h, _⟩ := h
  exact h
theorem N2.wf {w W : World} {A B : Nat} {s t : Np} {P : List (Nat × Obj)} (h : N2 w W A B s t P) : Wf s ∧ Wf t := by
  obtain ⟨O, Q, h1, h2, _⟩ := h
  exact ⟨h1.wf, h2.wf⟩
theorem N2.still {w W W' : World} {A B : Nat} {s t : Np} {P : List (Nat × Obj)} (h : N2 w W A B s t P) (hf : Fr W W' (fun _ => False)) : N2 w W' A B s t P := by
  obtain ⟨O, Q, h1, h2, h3, h4, h5⟩ := h
  exact ⟨O, Q, h1.still hf, h2.still hf, h3.trans hf, h4, fun p hp => ⟨keep_block (h5 p hp).1 hf (fun h => h), (h5 p hp).2⟩⟩
theorem N2.forget {w W : World} {A B : Nat} {s t : Np} {P : List (Nat × Obj)} (h : N2 w W A B s t P) : N2 w W A B s t [] := by
  obtain ⟨O, Q, h1, h2, h3, h4, h5⟩ := h
  exact ⟨O, Q, h1, h2, h3, h4, fun p hp => by cases hp⟩
/-- A block that was made. -/
theorem N2.box {w W W1 : World} {A B N : Nat} {s t : Np} {P : List (Nat × Obj)} {o : Obj} (h : N2 w W A B s t P) (hf : Fr W W1 (fun _ => False)) (hN : W.heap.size ≤ N) (ho : W1.heap[N]? = some o) : N2 w W1 A B s t ((N, o) :: P) := by
  obtain ⟨O, Q, h1, h2, h3, h4, h5⟩ := h
  refine ⟨O, Q, h1.still hf, h2.still hf, h3.trans hf, h4, fun p hp => ?_⟩
  rcases List.mem_cons.1 hp with rfl | hp
  · exact ⟨ho, fun hk => by have := h1.lt hk; dsimp only at this; omega, fun hk => by have := h2.lt hk; dsimp only at this; omega⟩
  · exact ⟨keep_block (h5 p hp).1 hf (fun h => h), (h5 p hp).2⟩
theorem N2.left {w W W' : World} {A B : Nat} {s s' t : Np} {P : List (Nat × Obj)} {O Q : Nat → Prop} (h1 : NO w W A s O) (h2 : NO w W B t Q) (h3 : Fr w W (fun _ => False)) (h4 : ∀ k, O k → ¬ Q k) (h5 : ∀ p ∈ P, W.heap[p.1]? = some p.2 ∧ ¬ O p.1 ∧ ¬ Q p.1) (hA : NA w W W' A s' O) : N2 w W' A B s' t P := by
  obtain ⟨O', k1, k2, k3⟩ := hA
  refine ⟨O', Q, k1, h2.step k3 (fun k hq ho => h4 k ho hq), h3.trans2 k3 (fun k hk ho => by have := h1.lo k ho; omega), fun k ho hq => ?_, fun p hp => ⟨keep_block (h5 p hp).1 k3 (h5 p hp).2.1, fun hk => ?_, (h5 p hp).2.2⟩⟩
  · rcases k2 k ho with h | h
    · exact h4 k h hq
    · have := h2.lt hq; omega
  · rcases k2 p.1 hk with h | h
    · exact (h5 p hp).2.1 h
    · have := lt_of_block (h5 p hp).1; omega
theorem N2.swap {w W : World} {A B : Nat} {s t : Np} {P : List (Nat × Obj)} (h : N2 w W A B s t P) : N2 w W B A t s P := by
  obtain ⟨O, Q, h1, h2, h3, h4, h5⟩ := h
  exact ⟨Q, O, h2, h1, h3, fun k hq ho => h4 k ho hq, fun p hp => ⟨(h5 p hp).1, (h5 p hp).2.2, (h5 p hp).2.1⟩⟩
theorem N2.did {w W : World} {A B : Nat} {s t : Np} {P : List (Nat × Obj)} (h : N2 w W A B s t P) (hm : s.m ≤ 70368744177664) (x : Sp) {ao : Option Addr} {cap : Nat} (hb : BsC W (.slice ao x.b.length cap) x.b) : Calls Try.prog 28 #[.pointer (some ⟨A, 0, none⟩), .agg #[.int .i64 x.k, .int .i64 x.c, .slice ao x.b.length cap, .int .i64 x.m]] W fun e w' => e = .returned (.tuple #[.int .i64 (didE s x), .string (didT s x)]) ∧ N2 w w' A B (didS s x) t P := by
  obtain ⟨O, Q, h1, h2, h3, h4, h5⟩ := h
  exact (h1.did hm x hb).mono fun e w' ⟨he, ha⟩ => ⟨he, N2.left h1 h2 h3 h4 h5 ha⟩
theorem N2.open {w W : World} {A B : Nat} {s t : Np} {P : List (Nat × Obj)} (h : N2 w W A B s t P) (c : Int) : Calls Try.prog 16 #[.pointer (some ⟨A, 0, none⟩), .int .i64 c] W fun e w' => e = .returned (.int .i64 (openE s c)) ∧ N2 w w' A B (openS s c) t P := by
  obtain ⟨O, Q, h1, h2, h3, h4, h5⟩ := h
  exact (h1.open c).mono fun e w' ⟨he, ha⟩ => ⟨he, N2.left h1 h2 h3 h4 h5 ha⟩
theorem N2.heard {w W : World} {A B : Nat} {s t : Np} {P : List (Nat × Obj)} (h : N2 w W A B s t P) (hm : s.m ≤ 70368744177664) (c : Int) : Calls Try.prog 25 #[.pointer (some ⟨A, 0, none⟩), .int .i64 c] W fun e w' => ∃ u, e = .returned (.tuple #[u, .bool (heardN s c)]) ∧ Rw w' W.heap.size 5 u (heardB s c) ∧ N2 w w' A B s t P ∧ Fr W w' (fun _ => False) := by
  have h' := h
  obtain ⟨O, Q, h1, h2, h3, h4, h5⟩ := h
  exact (h1.heard hm c).mono fun e w' ⟨u, he, h6, h7⟩ => ⟨u, he, h6, h'.still h7, h7⟩
theorem N2.is {w W : World} {A B : Nat} {s t : Np} {P : List (Nat × Obj)} (h : N2 w W A B s t P) (c : Int) : Calls Try.prog 29 #[.pointer (some ⟨A, 0, none⟩), .int .i64 c] W fun e w' => e = .returned (.tuple #[.bool (isO s c), .bool (isT s c)]) ∧ N2 w w' A B s t P ∧ Fr W w' (fun _ => False) := by
  have h' := h
  obtain ⟨O, Q, h1, h2, h3, h4, h5⟩ := h
  exact (h1.is c).mono fun e w' ⟨he, h7⟩ => ⟨he, h'.still h7, h7⟩
theorem N2.under {w W : World} {A B : Nat} {s t : Np} {P : List (Nat × Obj)} (h : N2 w W A B s t P) (c : Int) : Calls Try.prog 19 #[.pointer (some ⟨A, 0, none⟩), .int .i64 c] W fun e w' => e = .returned (.tuple #[.int .i64 (undI s c : Int), .int .i64 (undO s c : Int)]) ∧ N2 w w' A B s t P ∧ Fr W w' (fun _ => False) := by
  have h' := h
  obtain ⟨O, Q, h1, h2, h3, h4, h5⟩ := h
  exact (h1.under c).mono fun e w' ⟨he, h7⟩ => ⟨he, h'.still h7, h7⟩
end Go.Proofs.Ytdkaagigbncofaa
