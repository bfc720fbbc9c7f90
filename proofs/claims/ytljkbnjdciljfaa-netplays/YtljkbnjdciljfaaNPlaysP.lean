/- NetPlays: both nets side by side. -/
import Derived.Test.YtljkbnjdciljfaaNRefC
import Derived.Test.YtljkbnjdciljfaaNArgs
import Derived.Test.YtljkbnjdciljfaaNHead
namespace Go.Proofs.Ytljkbnjdciljfaa
open Go.RowKit

/-- The program's net, the document's, and blocks that stay. -/
def PP (w W : World) (A G : Nat) (s t : Np) (S : Nat → Prop) : Prop := ∃ (O : Nat → Prop) (g : Rx), g.G = G ∧ NO w W A s O ∧ RN W w.heap.size g t ∧ (∀ k, O k → ¬ g.ow k) ∧ Fr w W (fun _ => False) ∧ ∀ k, S k → ¬ O k ∧ ¬ g.ow k ∧ k < W.heap.size
theorem PP.fr {w W : World} {A G : Nat} {s t : Np} {S : Nat → Prop} (h : PP w W A G s t S) : Fr w W (fun _ => False) := by
  obtain ⟨O, g, _, _, _, _, h, _⟩ := h
  exact h
theorem PP.still {w W W' : World} {A G : Nat} {s t : Np} {S : Nat → Prop} (h : PP w W A G s t S) (hf : Fr W W' (fun _ => False)) : PP w W' A G s t S := by
  obtain ⟨O, g, h1, h2, h3, h4, h5, h6⟩ := h
  exact ⟨O, g, h1, h2.still hf, h3.still hf, h4, h5.trans hf, fun k hk => ⟨(h6 k hk).1, (h6 k hk).2.1, Nat.lt_of_lt_of_le (h6 k hk).2.2 hf.size⟩⟩
/-- A block that was made just now stays, too. -/
theorem PP.box {w W W' : World} {A G N : Nat} {s t : Np} {S : Nat → Prop} (h : PP w W A G s t S) (hf : Fr W W' (fun _ => False)) (hN : W.heap.size ≤ N) (hN2 : N < W'.heap.size) : PP w W' A G s t (fun k => k = N ∨ S k) := by
  obtain ⟨O, g, h1, h2, h3, h4, h5, h6⟩ := h
  refine ⟨O, g, h1, h2.still hf, h3.still hf, h4, h5.trans hf, fun k hk => ?_⟩
  rcases hk with rfl | hk
  · exact ⟨fun ho => by have := h2.lt ho; omega, fun ho => by have := (h3.lt ho).2; omega, hN2⟩
  · exact ⟨(h6 k hk).1, (h6 k hk).2.1, Nat.lt_of_lt_of_le (h6 k hk).2.2 hf.size⟩
theorem PP.less {w W : World} {A G : Nat} {s t : Np} {S T : Nat → Prop} (h : PP w W A G s t S) (hT : ∀ k, T k → S k) : PP w W A G s t T := by
  obtain ⟨O, g, h1, h2, h3, h4, h5, h6⟩ := h
  exact ⟨O, g, h1, h2, h3, h4, h5, fun k hk => h6 k (hT k hk)⟩
/-- A block that stays may be written to by its owner. -/
theorem PP.own {w W W' : World} {A G : Nat} {s t : Np} {S T : Nat → Prop} (h : PP w W A G s t S) (hf : Fr W W' T) (hT : ∀ k, T k → S k ∧ w.heap.size ≤ k) : PP w W' A G s t S := by
  obtain ⟨O, g, h1, h2, h3, h4, h5, h6⟩ := h
  exact ⟨O, g, h1, h2.step hf (fun k ho hT' => (h6 k (hT k hT').1).1 ho), h3.fr hf (fun k ho hT' => (h6 k (hT k hT').1).2.1 ho), h4, h5.trans2 hf (fun k hk hT' => by have := (hT k hT').2; omega), fun k hk => ⟨(h6 k hk).1, (h6 k hk).2.1, Nat.lt_of_lt_of_le (h6 k hk).2.2 hf.size⟩⟩
theorem PP.progL {w W W' : World} {A G : Nat} {s s' t : Np} {S O : Nat → Prop} {g : Rx} (h1 : g.G = G) (h2 : NO w W A s O) (h3 : RN W w.heap.size g t) (h4 : ∀ k, O k → ¬ g.ow k) (h5 : Fr w W (fun _ => False)) (h6 : ∀ k, S k → ¬ O k ∧ ¬ g.ow k ∧ k < W.heap.size) (ha : NA w W W' A s' O) : PP w W' A G s' t S ∧ Fr W W' (fun k => ¬ S k) := by
  obtain ⟨O', k1, k2, k3⟩ := ha
  refine ⟨⟨O', g, h1, k1, h3.fr k3 (fun k hk ho => h4 k ho hk), fun k hk hg => ?_, h5.trans2 k3 (fun k hk ho => by have := h2.lo k ho; omega), fun k hk => ⟨fun ho => ?_, (h6 k hk).2.1, Nat.lt_of_lt_of_le (h6 k hk).2.2 k3.size⟩⟩, k3.mono (fun k _ ho hs => (h6 k hs).1 ho)⟩
  · rcases k2 k hk with h | h
    · exact h4 k h hg
    · have := (h3.lt hg).2; omega
  · rcases k2 k ho with h | h
    · exact (h6 k hk).1 h
    · have := (h6 k hk).2.2; omega
theorem PP.refL {w W W' : World} {A G : Nat} {s t t' : Np} {S O : Nat → Prop} {g : Rx} (h1 : g.G = G) (h2 : NO w W A s O) (h3 : RN W w.heap.size g t) (h4 : ∀ k, O k → ¬ g.ow k) (h5 : Fr w W (fun _ => False)) (h6 : ∀ k, S k → ¬ O k ∧ ¬ g.ow k ∧ k < W.heap.size) (ha : RNA W W' w.heap.size g t') : PP w W' A G s t' S ∧ Fr W W' (fun k => ¬ S k) := by
  obtain ⟨g', k0, k1, k2, k3⟩ := ha
  refine ⟨⟨O, g', k0.trans h1, h2.step k3 h4, k1, fun k hk hg => ?_, h5.trans2 k3 (fun k hk ho => by have := (h3.lt ho).1; omega), fun k hk => ⟨(h6 k hk).1, fun hg => ?_, Nat.lt_of_lt_of_le (h6 k hk).2.2 k3.size⟩⟩, k3.mono (fun k _ ho hs => (h6 k hs).2.1 ho)⟩
  · rcases k2 k hg with h | h
    · exact h4 k hk h
    · have := h2.lt hk; omega
  · rcases k2 k hg with h | h
    · exact (h6 k hk).2.1 h
    · have := (h6 k hk).2.2; omega
theorem PP.open {w W : World} {A G : Nat} {s t : Np} {S : Nat → Prop} (h : PP w W A G s t S) (c : Int) : Calls Try.prog 16 #[.pointer (some ⟨A, 0, none⟩), .int .i64 c] W fun e w' => e = .returned (.int .i64 (openE s c)) ∧ PP w w' A G (openS s c) t S ∧ Fr W w' (fun k => ¬ S k) := by
  obtain ⟨O, g, rfl, h2, h3, h4, h5, h6⟩ := h
  exact (h2.open c).mono fun e w' ⟨he, ha⟩ => ⟨he, PP.progL rfl h2 h3 h4 h5 h6 ha⟩
theorem PP.ropen {w W : World} {A G : Nat} {s t : Np} {S : Nat → Prop} (h : PP w W A G s t S) (c : Int) : Calls Try.prog 34 #[.pointer (some ⟨G, 0, none⟩), .int .i64 c] W fun e w' => e = .returned (.int .i64 (openE t c)) ∧ PP w w' A G s (openS t c) S ∧ Fr W w' (fun k => ¬ S k) := by
  obtain ⟨O, g, rfl, h2, h3, h4, h5, h6⟩ := h
  exact (ropen_any h3 c).mono fun e w' ⟨he, ha⟩ => ⟨he, PP.refL rfl h2 h3 h4 h5 h6 ha⟩
theorem PP.close {w W : World} {A G : Nat} {s t : Np} {S : Nat → Prop} (h : PP w W A G s t S) (c : Int) : Calls Try.prog 26 #[.pointer (some ⟨A, 0, none⟩), .int .i64 c] W fun e w' => e = .returned (.int .i64 (useE s c)) ∧ PP w w' A G (closeS s c) t S ∧ Fr W w' (fun k => ¬ S k) := by
  obtain ⟨O, g, rfl, h2, h3, h4, h5, h6⟩ := h
  exact (h2.close c).mono fun e w' ⟨he, ha⟩ => ⟨he, PP.progL rfl h2 h3 h4 h5 h6 ha⟩
theorem PP.rclose {w W : World} {A G : Nat} {s t : Np} {S : Nat → Prop} (h : PP w W A G s t S) (c : Int) : Calls Try.prog 42 #[.pointer (some ⟨G, 0, none⟩), .int .i64 c] W fun e w' => e = .returned (.int .i64 (useE t c)) ∧ PP w w' A G s (closeS t c) S ∧ Fr W w' (fun k => ¬ S k) := by
  obtain ⟨O, g, rfl, h2, h3, h4, h5, h6⟩ := h
  exact (rclose_any h3 c).mono fun e w' ⟨he, ha⟩ => ⟨he, PP.refL rfl h2 h3 h4 h5 h6 ha⟩
theorem PP.cut {w W : World} {A G : Nat} {s t : Np} {S : Nat → Prop} (h : PP w W A G s t S) (c : Int) : Calls Try.prog 27 #[.pointer (some ⟨A, 0, none⟩), .int .i64 c] W fun e w' => e = .returned (.int .i64 (cutE s c)) ∧ PP w w' A G (cutS s c) t S ∧ Fr W w' (fun k => ¬ S k) := by
  obtain ⟨O, g, rfl, h2, h3, h4, h5, h6⟩ := h
  exact (h2.cut c).mono fun e w' ⟨he, ha⟩ => ⟨he, PP.progL rfl h2 h3 h4 h5 h6 ha⟩
theorem PP.rcut {w W : World} {A G : Nat} {s t : Np} {S : Nat → Prop} (h : PP w W A G s t S) (c : Int) : Calls Try.prog 43 #[.pointer (some ⟨G, 0, none⟩), .int .i64 c] W fun e w' => e = .returned (.int .i64 (cutE t c)) ∧ PP w w' A G s (cutS t c) S ∧ Fr W w' (fun k => ¬ S k) := by
  obtain ⟨O, g, rfl, h2, h3, h4, h5, h6⟩ := h
  exact (rcut_any h3 c).mono fun e w' ⟨he, ha⟩ => ⟨he, PP.refL rfl h2 h3 h4 h5 h6 ha⟩
theorem PP.bring {w W : World} {A G : Nat} {s t : Np} {S : Nat → Prop} (h : PP w W A G s t S) (hm : s.m ≤ 70368744177664) (c most : Int) : Calls Try.prog 18 #[.pointer (some ⟨A, 0, none⟩), .int .i64 c, .int .i64 most] W fun e w' => e = .returned (.tuple #[.int .i64 (bringK s c most : Int), .int .i64 (findE s c)]) ∧ PP w w' A G (bringS s c most) t S ∧ Fr W w' (fun k => ¬ S k) := by
  obtain ⟨O, g, rfl, h2, h3, h4, h5, h6⟩ := h
  exact (h2.bring hm c most).mono fun e w' ⟨he, ha⟩ => ⟨he, PP.progL rfl h2 h3 h4 h5 h6 ha⟩
theorem PP.rbring {w W : World} {A G : Nat} {s t : Np} {S : Nat → Prop} (h : PP w W A G s t S) (hm : t.m ≤ 70368744177664) (c most : Int) : Calls Try.prog 38 #[.pointer (some ⟨G, 0, none⟩), .int .i64 c, .int .i64 most] W fun e w' => e = .returned (.tuple #[.int .i64 (bringK t c most : Int), .int .i64 (findE t c)]) ∧ PP w w' A G s (bringS t c most) S ∧ Fr W w' (fun k => ¬ S k) := by
  obtain ⟨O, g, rfl, h2, h3, h4, h5, h6⟩ := h
  exact (rbring_any h3 hm c most).mono fun e w' ⟨he, ha⟩ => ⟨he, PP.refL rfl h2 h3 h4 h5 h6 ha⟩
theorem PP.fetch {w W : World} {A G : Nat} {s t : Np} {S : Nat → Prop} (h : PP w W A G s t S) (hm : s.m ≤ 70368744177664) (c most : Int) : Calls Try.prog 24 #[.pointer (some ⟨A, 0, none⟩), .int .i64 c, .int .i64 most] W fun e w' => e = .returned (.tuple #[.int .i64 (fetchK s c most : Int), .int .i64 (findE s c)]) ∧ PP w w' A G (fetchS s c most) t S ∧ Fr W w' (fun k => ¬ S k) := by
  obtain ⟨O, g, rfl, h2, h3, h4, h5, h6⟩ := h
  exact (h2.fetch hm c most).mono fun e w' ⟨he, ha⟩ => ⟨he, PP.progL rfl h2 h3 h4 h5 h6 ha⟩
theorem PP.rfetch {w W : World} {A G : Nat} {s t : Np} {S : Nat → Prop} (h : PP w W A G s t S) (hm : t.m ≤ 70368744177664) (c most : Int) : Calls Try.prog 41 #[.pointer (some ⟨G, 0, none⟩), .int .i64 c, .int .i64 most] W fun e w' => e = .returned (.tuple #[.int .i64 (fetchK t c most : Int), .int .i64 (findE t c)]) ∧ PP w w' A G s (fetchS t c most) S ∧ Fr W w' (fun k => ¬ S k) := by
  obtain ⟨O, g, rfl, h2, h3, h4, h5, h6⟩ := h
  exact (rfetch_any h3 hm c most).mono fun e w' ⟨he, ha⟩ => ⟨he, PP.refL rfl h2 h3 h4 h5 h6 ha⟩
theorem PP.send {w W : World} {A G : Nat} {s t : Np} {S : Nat → Prop} (h : PP w W A G s t S) (c : Int) {ao : Option Addr} {n zcap : Nat} {zs : List Nat} (hn : n = zs.length) (hz : Bs W (.slice ao n zcap) zs) (hzc : n ≤ zcap) : Calls Try.prog 17 #[.pointer (some ⟨A, 0, none⟩), .int .i64 c, .slice ao n zcap] W fun e w' => e = .returned (.int .i64 (sendE s c zs)) ∧ PP w w' A G (sendS s c zs) t S ∧ Fr W w' (fun k => ¬ S k) := by
  obtain ⟨O, g, rfl, h2, h3, h4, h5, h6⟩ := h
  exact (h2.send c hn hz hzc).mono fun e w' ⟨he, ha⟩ => ⟨he, PP.progL rfl h2 h3 h4 h5 h6 ha⟩
theorem PP.rsend {w W : World} {A G : Nat} {s t : Np} {S : Nat → Prop} (h : PP w W A G s t S) (c : Int) {ao : Option Addr} {n zcap : Nat} {zs : List Nat} (hn : n = zs.length) (hz : Bs W (.slice ao n zcap) zs) (hz2 : n ≤ 140737488355328) : Calls Try.prog 36 #[.pointer (some ⟨G, 0, none⟩), .int .i64 c, .slice ao n zcap] W fun e w' => e = .returned (.int .i64 (sendE t c zs)) ∧ PP w w' A G s (sendS t c zs) S ∧ Fr W w' (fun k => ¬ S k) := by
  obtain ⟨O, g, rfl, h2, h3, h4, h5, h6⟩ := h
  exact (rsend_any h3 c hn hz2 hz).mono fun e w' ⟨he, ha⟩ => ⟨he, PP.refL rfl h2 h3 h4 h5 h6 ha⟩
theorem PP.write {w W : World} {A G : Nat} {s t : Np} {S : Nat → Prop} (h : PP w W A G s t S) (c : Int) {ao : Option Addr} {n zcap : Nat} {zs : List Nat} (hn : n = zs.length) (hz : Bs W (.slice ao n zcap) zs) (hzc : n ≤ zcap) : Calls Try.prog 23 #[.pointer (some ⟨A, 0, none⟩), .int .i64 c, .slice ao n zcap] W fun e w' => e = .returned (.tuple #[.int .i64 (writeK s c zs.length : Int), .int .i64 (useE s c)]) ∧ PP w w' A G (writeS s c zs) t S ∧ Fr W w' (fun k => ¬ S k) := by
  obtain ⟨O, g, rfl, h2, h3, h4, h5, h6⟩ := h
  exact (h2.write c hn hz hzc).mono fun e w' ⟨he, ha⟩ => ⟨he, PP.progL rfl h2 h3 h4 h5 h6 ha⟩
theorem PP.rwrite {w W : World} {A G : Nat} {s t : Np} {S : Nat → Prop} (h : PP w W A G s t S) (c : Int) {ao : Option Addr} {n zcap : Nat} {zs : List Nat} (hn : n = zs.length) (hz : Bs W (.slice ao n zcap) zs) (hzc : n ≤ zcap) (hz2 : n ≤ 140737488355328) : Calls Try.prog 40 #[.pointer (some ⟨G, 0, none⟩), .int .i64 c, .slice ao n zcap] W fun e w' => e = .returned (.tuple #[.int .i64 (writeK t c zs.length : Int), .int .i64 (useE t c)]) ∧ PP w w' A G s (writeS t c zs) S ∧ Fr W w' (fun k => ¬ S k) := by
  obtain ⟨O, g, rfl, h2, h3, h4, h5, h6⟩ := h
  exact (rwrite_any h3 c hn hz2 hzc hz).mono fun e w' ⟨he, ha⟩ => ⟨he, PP.refL rfl h2 h3 h4 h5 h6 ha⟩
theorem PP.take {w W : World} {A G : Nat} {s t : Np} {S : Nat → Prop} (h : PP w W A G s t S) (c : Int) : Calls Try.prog 22 #[.pointer (some ⟨A, 0, none⟩), .int .i64 c] W fun e w' => ∃ v, e = .returned (.tuple #[v, .int .i64 (useE s c)]) ∧ Rw w' w.heap.size 5 v (takeB s c) ∧ PP w w' A G (takeS s c) t (fun k => v.ownBlock = some k ∨ S k) ∧ Fr W w' (fun k => ¬ S k) := by
  obtain ⟨O, g, rfl, h2, h3, h4, h5, h6⟩ := h
  refine (h2.take c).mono ?_
  rintro e w' ⟨v, he, O', k1, k2, k3, k4, k5⟩
  refine ⟨v, he, k4, ⟨O', g, rfl, k1, h3.fr k3 (fun k hk ho => h4 k ho hk), fun k hk hg => ?_, h5.trans2 k3 (fun k hk ho => by have := h2.lo k ho; omega), fun k hk => ?_⟩, k3.mono (fun k _ ho hs => (h6 k hs).1 ho)⟩
  · rcases k2 k hk with h | h
    · exact h4 k h hg
    · have := (h3.lt hg).2; omega
  · rcases hk with hk | hk
    · exact ⟨(k5 k hk).1, h4 k (k5 k hk).2, (k4.lt hk).2⟩
    · refine ⟨fun ho => ?_, (h6 k hk).2.1, Nat.lt_of_lt_of_le (h6 k hk).2.2 k3.size⟩
      rcases k2 k ho with h | h
      · exact (h6 k hk).1 h
      · have := (h6 k hk).2.2; omega
theorem PP.rtake {w W : World} {A G : Nat} {s t : Np} {S : Nat → Prop} (h : PP w W A G s t S) (c : Int) : Calls Try.prog 39 #[.pointer (some ⟨G, 0, none⟩), .int .i64 c] W fun e w' => ∃ v, e = .returned (.tuple #[v, .int .i64 (useE t c)]) ∧ Rw w' w.heap.size 5 v (takeB t c) ∧ PP w w' A G s (takeS t c) S ∧ Fr W w' (fun k => ¬ S k) := by
  obtain ⟨O, g, rfl, h2, h3, h4, h5, h6⟩ := h
  exact (rtake_any h3 c).mono fun e w' ⟨v, he, hv, ha⟩ => ⟨v, he, hv, PP.refL rfl h2 h3 h4 h5 h6 ha⟩
theorem PP.heard {w W : World} {A G : Nat} {s t : Np} {S : Nat → Prop} (h : PP w W A G s t S) (hm : s.m ≤ 70368744177664) (c : Int) : Calls Try.prog 25 #[.pointer (some ⟨A, 0, none⟩), .int .i64 c] W fun e w' => ∃ u, e = .returned (.tuple #[u, .bool (heardN s c)]) ∧ Rw w' W.heap.size 5 u (heardB s c) ∧ Fr W w' (fun _ => False) := by
  obtain ⟨O, g, _, h2, _⟩ := h
  exact h2.heard hm c
theorem PP.rheard {w W : World} {A G : Nat} {s t : Np} {S : Nat → Prop} (h : PP w W A G s t S) (hm : t.m ≤ 70368744177664) (c : Int) : Calls Try.prog 44 #[.pointer (some ⟨G, 0, none⟩), .int .i64 c] W fun e w' => ∃ u, e = .returned (.tuple #[u, .bool (heardN t c)]) ∧ Rw w' w.heap.size 5 u (heardB t c) ∧ Fr W w' (fun _ => False) := by
  obtain ⟨O, g, rfl, h2, h3, _⟩ := h
  exact rheard_any h3 hm c
theorem PP.is {w W : World} {A G : Nat} {s t : Np} {S : Nat → Prop} (h : PP w W A G s t S) (c : Int) : Calls Try.prog 29 #[.pointer (some ⟨A, 0, none⟩), .int .i64 c] W fun e w' => e = .returned (.tuple #[.bool (isO s c), .bool (isT s c)]) ∧ Fr W w' (fun _ => False) := by
  obtain ⟨O, g, _, h2, _⟩ := h
  exact h2.is c
theorem PP.ris {w W : World} {A G : Nat} {s t : Np} {S : Nat → Prop} (h : PP w W A G s t S) (c : Int) : Calls Try.prog 45 #[.pointer (some ⟨G, 0, none⟩), .int .i64 c] W fun e w' => e = .returned (.tuple #[.bool (isO t c), .bool (isT t c)]) ∧ Fr W w' (fun _ => False) := by
  obtain ⟨O, g, rfl, h2, h3, _⟩ := h
  exact ris_any h3 c
theorem PP.under {w W : World} {A G : Nat} {s t : Np} {S : Nat → Prop} (h : PP w W A G s t S) (c : Int) : Calls Try.prog 19 #[.pointer (some ⟨A, 0, none⟩), .int .i64 c] W fun e w' => e = .returned (.tuple #[.int .i64 (undI s c : Int), .int .i64 (undO s c : Int)]) ∧ Fr W w' (fun _ => False) := by
  obtain ⟨O, g, _, h2, _⟩ := h
  exact h2.under c
theorem PP.runder {w W : World} {A G : Nat} {s t : Np} {S : Nat → Prop} (h : PP w W A G s t S) (c : Int) : Calls Try.prog 46 #[.pointer (some ⟨G, 0, none⟩), .int .i64 c] W fun e w' => e = .returned (.tuple #[.int .i64 (undI t c : Int), .int .i64 (undO t c : Int)]) ∧ Fr W w' (fun _ => False) := by
  obtain ⟨O, g, rfl, h2, h3, _⟩ := h
  exact runder_any h3 c
theorem PP.moved {w W : World} {A G : Nat} {s t : Np} {S : Nat → Prop} (h : PP w W A G s t S) : (Calls Try.prog 20 #[.pointer (some ⟨A, 0, none⟩)] W fun e w' => e = .returned (.int .i64 (s.m : Int)) ∧ w' = W) ∧ W.cell? ⟨G, 3, none⟩ = some (.int .i64 (t.m : Int)) ∧ G < W.heap.size := by
  obtain ⟨O, g, rfl, h2, h3, _⟩ := h
  obtain ⟨_, _, _, h7, _, h8⟩ := h3.cells
  exact ⟨h2.moved, h7, h8⟩
/-- A step of a script. -/
def plS (s : Np) (x : Sp) : Np := if x.k = 1 then openS s x.c else if x.k = 2 then sendS s x.c x.b else if x.k = 3 then bringS s x.c x.m else if x.k = 4 then takeS s x.c else if x.k = 5 then writeS s x.c x.b else if x.k = 6 then fetchS s x.c x.m else if x.k = 7 then closeS s x.c else if x.k = 8 then cutS s x.c else s
end Go.Proofs.Ytljkbnjdciljfaa
