/- net: a net behind a world; two forms of the calls' contracts. -/
import Derived.Test.YtedlpefglgleeabNNew
namespace Go.Proofs.Ytedlpefglgleeab
open Go.RowKit

/-- A net behind w, its own blocks O. -/
structure NO (w W : World) (B : Nat) (s : Np) (O : Nat → Prop) : Prop where
  ex : ∃ g : Nx, g.B = B ∧ Nt W w.heap.size g ∧ g.ps = s ∧ g.ow = O
  lo : ∀ k, O k → w.heap.size ≤ k
  sz : w.heap.size ≤ W.heap.size
theorem NO.step {w W W' : World} {S : Nat → Prop} {B : Nat} {s : Np} {O : Nat → Prop} (h : NO w W B s O) (hf : Fr W W' S) (hS : ∀ k, O k → ¬ S k) : NO w W' B s O := by
  obtain ⟨g, h1, h2, h3, rfl⟩ := h.ex
  exact ⟨⟨g, h1, h2.step hf hS, h3, rfl⟩, h.lo, Nat.le_trans h.sz hf.size⟩
theorem NO.still {w W W' : World} {B : Nat} {s : Np} {O : Nat → Prop} (h : NO w W B s O) (hf : Fr W W' (fun _ => False)) : NO w W' B s O := h.step hf (fun _ _ h => h)
theorem NO.lt {w W : World} {B : Nat} {s : Np} {O : Nat → Prop} (h : NO w W B s O) {k : Nat} (hk : O k) : k < W.heap.size := by
  obtain ⟨g, h1, h2, h3, rfl⟩ := h.ex
  exact h2.lt hk
theorem NO.wf {w W : World} {B : Nat} {s : Np} {O : Nat → Prop} (h : NO w W B s O) : Wf s := by
  obtain ⟨g, h1, h2, rfl, _⟩ := h.ex
  exact h2.wf
/-- What a call leaves. -/
def NA (w W W' : World) (B : Nat) (s : Np) (O : Nat → Prop) : Prop := ∃ O', NO w W' B s O' ∧ Gr W O O' ∧ Fr W W' O
theorem NO.aft {w W W' : World} {g : Nx} {s s' : Np} (h : NO w W g.B s g.ow) (ha : NtA W W' w.heap.size g s') : NA w W W' g.B s' g.ow := by
  obtain ⟨g', h1, h2, h3, h4, h5⟩ := ha
  refine ⟨g'.ow, ⟨⟨g', h1, h3, h2, rfl⟩, fun k hk => h3.ge hk, Nat.le_trans h.sz h5.size⟩, h4, h5⟩
theorem NO.open {w W : World} {B : Nat} {s : Np} {O : Nat → Prop} (h : NO w W B s O) (c : Int) : Calls Try.prog 7 #[.pointer (some ⟨B, 0, none⟩), .int .i64 c] W fun e w' => e = .returned (.int .i64 (openE s c)) ∧ NA w W w' B (openS s c) O := by
  obtain ⟨g, rfl, h2, rfl, rfl⟩ := h.ex
  exact (nopen_any h2 h.sz c).mono fun e w' ⟨he, ha⟩ => ⟨he, h.aft ha⟩
theorem NO.send {w W : World} {B : Nat} {s : Np} {O : Nat → Prop} (h : NO w W B s O) (c : Int) {ao : Option Addr} {n zcap : Nat} {zs : List Nat} (hn : n = zs.length) (hz : Bs W (.slice ao n zcap) zs) (hzc : n ≤ zcap) : Calls Try.prog 9 #[.pointer (some ⟨B, 0, none⟩), .int .i64 c, .slice ao n zcap] W fun e w' => e = .returned (.int .i64 (sendE s c zs)) ∧ NA w W w' B (sendS s c zs) O := by
  subst hn
  obtain ⟨g, rfl, h2, rfl, rfl⟩ := h.ex
  exact (nsend_any h2 h.sz c hz hzc).mono fun e w' ⟨he, ha⟩ => ⟨he, h.aft ha⟩
theorem NO.write {w W : World} {B : Nat} {s : Np} {O : Nat → Prop} (h : NO w W B s O) (c : Int) {ao : Option Addr} {n zcap : Nat} {zs : List Nat} (hn : n = zs.length) (hz : Bs W (.slice ao n zcap) zs) (hzc : n ≤ zcap) : Calls Try.prog 11 #[.pointer (some ⟨B, 0, none⟩), .int .i64 c, .slice ao n zcap] W fun e w' => e = .returned (.tuple #[.int .i64 (writeK s c zs.length : Int), .int .i64 (useE s c)]) ∧ NA w W w' B (writeS s c zs) O := by
  subst hn
  obtain ⟨g, rfl, h2, rfl, rfl⟩ := h.ex
  exact (nwrite_any h2 h.sz c hz hzc).mono fun e w' ⟨he, ha⟩ => ⟨he, h.aft ha⟩
theorem NO.close {w W : World} {B : Nat} {s : Np} {O : Nat → Prop} (h : NO w W B s O) (c : Int) : Calls Try.prog 14 #[.pointer (some ⟨B, 0, none⟩), .int .i64 c] W fun e w' => e = .returned (.int .i64 (useE s c)) ∧ NA w W w' B (closeS s c) O := by
  obtain ⟨g, rfl, h2, rfl, rfl⟩ := h.ex
  exact (nclose_any h2 c).mono fun e w' ⟨he, ha⟩ => ⟨he, h.aft ha⟩
theorem NO.cut {w W : World} {B : Nat} {s : Np} {O : Nat → Prop} (h : NO w W B s O) (c : Int) : Calls Try.prog 13 #[.pointer (some ⟨B, 0, none⟩), .int .i64 c] W fun e w' => e = .returned (.int .i64 (cutE s c)) ∧ NA w W w' B (cutS s c) O := by
  obtain ⟨g, rfl, h2, rfl, rfl⟩ := h.ex
  exact (ncut_any h2 c).mono fun e w' ⟨he, ha⟩ => ⟨he, h.aft ha⟩
theorem NO.bring {w W : World} {B : Nat} {s : Np} {O : Nat → Prop} (h : NO w W B s O) (hm : s.m ≤ 70368744177664) (c most : Int) : Calls Try.prog 10 #[.pointer (some ⟨B, 0, none⟩), .int .i64 c, .int .i64 most] W fun e w' => e = .returned (.tuple #[.int .i64 (bringK s c most : Int), .int .i64 (findE s c)]) ∧ NA w W w' B (bringS s c most) O := by
  obtain ⟨g, rfl, h2, rfl, rfl⟩ := h.ex
  exact (nbring_any h2 h.sz hm c most).mono fun e w' ⟨he, ha⟩ => ⟨he, h.aft ha⟩
theorem NO.fetch {w W : World} {B : Nat} {s : Np} {O : Nat → Prop} (h : NO w W B s O) (hm : s.m ≤ 70368744177664) (c most : Int) : Calls Try.prog 12 #[.pointer (some ⟨B, 0, none⟩), .int .i64 c, .int .i64 most] W fun e w' => e = .returned (.tuple #[.int .i64 (fetchK s c most : Int), .int .i64 (findE s c)]) ∧ NA w W w' B (fetchS s c most) O := by
  obtain ⟨g, rfl, h2, rfl, rfl⟩ := h.ex
  exact (nfetch_any h2 h.sz hm c most).mono fun e w' ⟨he, ha⟩ => ⟨he, h.aft ha⟩
theorem NO.heard {w W : World} {B : Nat} {s : Np} {O : Nat → Prop} (h : NO w W B s O) (hm : s.m ≤ 70368744177664) (c : Int) : Calls Try.prog 17 #[.pointer (some ⟨B, 0, none⟩), .int .i64 c] W fun e w' => ∃ u, e = .returned (.tuple #[u, .bool (heardN s c)]) ∧ Rw w' W.heap.size 5 u (heardB s c) ∧ Fr W w' (fun _ => False) := by
  obtain ⟨g, rfl, h2, rfl, rfl⟩ := h.ex
  exact nheard_any h2 hm c
theorem NO.is {w W : World} {B : Nat} {s : Np} {O : Nat → Prop} (h : NO w W B s O) (c : Int) : Calls Try.prog 15 #[.pointer (some ⟨B, 0, none⟩), .int .i64 c] W fun e w' => e = .returned (.tuple #[.bool (isO s c), .bool (isT s c)]) ∧ Fr W w' (fun _ => False) := by
  obtain ⟨g, rfl, h2, rfl, rfl⟩ := h.ex
  exact nis_any h2 c
theorem NO.under {w W : World} {B : Nat} {s : Np} {O : Nat → Prop} (h : NO w W B s O) (c : Int) : Calls Try.prog 16 #[.pointer (some ⟨B, 0, none⟩), .int .i64 c] W fun e w' => e = .returned (.tuple #[.int .i64 (undI s c : Int), .int .i64 (undO s c : Int)]) ∧ Fr W w' (fun _ => False) := by
  obtain ⟨g, rfl, h2, rfl, rfl⟩ := h.ex
  exact nunder_any h2 c
theorem NO.moved {w W : World} {B : Nat} {s : Np} {O : Nat → Prop} (h : NO w W B s O) : Calls Try.prog 19 #[.pointer (some ⟨B, 0, none⟩)] W fun e w' => e = .returned (.int .i64 (s.m : Int)) ∧ w' = W := by
  obtain ⟨g, rfl, h2, rfl, rfl⟩ := h.ex
  exact moved_any h2
/-- What Take leaves, and hands out. -/
def TA (w W W' : World) (B : Nat) (s : Np) (O : Nat → Prop) (v : Value) (xs : List Nat) : Prop := ∃ O', NO w W' B s O' ∧ Gr W O O' ∧ Fr W W' O ∧ Rw W' w.heap.size 5 v xs ∧ ∀ k, v.ownBlock = some k → ¬ O' k ∧ O k
theorem NO.take {w W : World} {B : Nat} {s : Np} {O : Nat → Prop} (h : NO w W B s O) (c : Int) : Calls Try.prog 18 #[.pointer (some ⟨B, 0, none⟩), .int .i64 c] W fun e w' => ∃ v, e = .returned (.tuple #[v, .int .i64 (useE s c)]) ∧ TA w W w' B (takeS s c) O v (takeB s c) := by
  obtain ⟨g, rfl, h2, rfl, rfl⟩ := h.ex
  refine (ntake_any h2 c).mono fun e w' ⟨v, he, g', h1, h3, h4, h5, h6, h7, h8⟩ => ⟨v, he, g'.ow, ⟨⟨g', h1, h4, h3, rfl⟩, fun k hk => h4.ge hk, Nat.le_trans h.sz h6.size⟩, h5, h6, h7, h8⟩
theorem nnew_o {w : World} (W : World) {a b : Nat} (ha : 1 ≤ a ∧ a ≤ 131072) (hb : 1 ≤ b ∧ b ≤ 131072) (hs : w.heap.size ≤ W.heap.size) : Calls Try.prog 6 #[.int .i64 (a : Int), .int .i64 (b : Int)] W fun e w' => ∃ B, e = .returned (.tuple #[.pointer (some ⟨B, 0, none⟩), .int .i64 0]) ∧ ∃ O, NO w w' B (np0 a b) O ∧ (∀ k, O k → W.heap.size ≤ k) ∧ Fr W w' (fun _ => False) := by
  refine (nnew_ok W w.heap.size a b hs ha hb).mono ?_
  rintro e w' ⟨g, rfl, h1, h2, h3, h4⟩
  exact ⟨g.B, rfl, g.ow, ⟨⟨g, rfl, h2, h1, rfl⟩, fun k hk => h2.ge hk, Nat.le_trans hs h4.size⟩, h3, h4⟩
/-- A net that is alone behind w. -/
def NI (w W : World) (B : Nat) (s : Np) : Prop := ∃ O, NO w W B s O ∧ Fr w W (fun _ => False)
theorem NI.still {w W W' : World} {B : Nat} {s : Np} (h : NI w W B s) (hf : Fr W W' (fun _ => False)) : NI w W' B s := by
  obtain ⟨O, h, h2⟩ := h
  exact ⟨O, h.still hf, h2.trans hf⟩
theorem NI.fr {w W : World} {B : Nat} {s : Np} (h : NI w W B s) : Fr w W (fun _ => False) := by
  obtain ⟨O, h, h2⟩ := h
  exact h2
theorem NI.wf {w W : World} {B : Nat} {s : Np} (h : NI w W B s) : Wf s := by
  obtain ⟨O, h, h2⟩ := h
  exact h.wf
theorem NI.of {w W W' : World} {B : Nat} {s s' : Np} {O : Nat → Prop} (h : NO w W B s O) (h2 : Fr w W (fun _ => False)) (ha : NA w W W' B s' O) : NI w W' B s' := by
  obtain ⟨O', k1, k2, k3⟩ := ha
  exact ⟨O', k1, h2.trans2 k3 (fun k hk ho => by have := h.lo k ho; omega)⟩
theorem NI.open {w W : World} {B : Nat} {s : Np} (h : NI w W B s) (c : Int) : Calls Try.prog 7 #[.pointer (some ⟨B, 0, none⟩), .int .i64 c] W fun e w' => e = .returned (.int .i64 (openE s c)) ∧ NI w w' B (openS s c) := by
  obtain ⟨O, h, h2⟩ := h
  exact (h.open c).mono fun e w' ⟨he, ha⟩ => ⟨he, NI.of h h2 ha⟩
theorem NI.send {w W : World} {B : Nat} {s : Np} (h : NI w W B s) (c : Int) {ao : Option Addr} {n zcap : Nat} {zs : List Nat} (hn : n = zs.length) (hz : Bs W (.slice ao n zcap) zs) (hzc : n ≤ zcap) : Calls Try.prog 9 #[.pointer (some ⟨B, 0, none⟩), .int .i64 c, .slice ao n zcap] W fun e w' => e = .returned (.int .i64 (sendE s c zs)) ∧ NI w w' B (sendS s c zs) := by
  obtain ⟨O, h, h2⟩ := h
  exact (h.send c hn hz hzc).mono fun e w' ⟨he, ha⟩ => ⟨he, NI.of h h2 ha⟩
theorem NI.write {w W : World} {B : Nat} {s : Np} (h : NI w W B s) (c : Int) {ao : Option Addr} {n zcap : Nat} {zs : List Nat} (hn : n = zs.length) (hz : Bs W (.slice ao n zcap) zs) (hzc : n ≤ zcap) : Calls Try.prog 11 #[.pointer (some ⟨B, 0, none⟩), .int .i64 c, .slice ao n zcap] W fun e w' => e = .returned (.tuple #[.int .i64 (writeK s c zs.length : Int), .int .i64 (useE s c)]) ∧ NI w w' B (writeS s c zs) := by
  obtain ⟨O, h, h2⟩ := h
  exact (h.write c hn hz hzc).mono fun e w' ⟨he, ha⟩ => ⟨he, NI.of h h2 ha⟩
theorem NI.close {w W : World} {B : Nat} {s : Np} (h : NI w W B s) (c : Int) : Calls Try.prog 14 #[.pointer (some ⟨B, 0, none⟩), .int .i64 c] W fun e w' => e = .returned (.int .i64 (useE s c)) ∧ NI w w' B (closeS s c) := by
  obtain ⟨O, h, h2⟩ := h
  exact (h.close c).mono fun e w' ⟨he, ha⟩ => ⟨he, NI.of h h2 ha⟩
theorem NI.cut {w W : World} {B : Nat} {s : Np} (h : NI w W B s) (c : Int) : Calls Try.prog 13 #[.pointer (some ⟨B, 0, none⟩), .int .i64 c] W fun e w' => e = .returned (.int .i64 (cutE s c)) ∧ NI w w' B (cutS s c) := by
  obtain ⟨O, h, h2⟩ := h
  exact (h.cut c).mono fun e w' ⟨he, ha⟩ => ⟨he, NI.of h h2 ha⟩
theorem NI.bring {w W : World} {B : Nat} {s : Np} (h : NI w W B s) (hm : s.m ≤ 70368744177664) (c most : Int) : Calls Try.prog 10 #[.pointer (some ⟨B, 0, none⟩), .int .i64 c, .int .i64 most] W fun e w' => e = .returned (.tuple #[.int .i64 (bringK s c most : Int), .int .i64 (findE s c)]) ∧ NI w w' B (bringS s c most) := by
  obtain ⟨O, h, h2⟩ := h
  exact (h.bring hm c most).mono fun e w' ⟨he, ha⟩ => ⟨he, NI.of h h2 ha⟩
theorem NI.fetch {w W : World} {B : Nat} {s : Np} (h : NI w W B s) (hm : s.m ≤ 70368744177664) (c most : Int) : Calls Try.prog 12 #[.pointer (some ⟨B, 0, none⟩), .int .i64 c, .int .i64 most] W fun e w' => e = .returned (.tuple #[.int .i64 (fetchK s c most : Int), .int .i64 (findE s c)]) ∧ NI w w' B (fetchS s c most) := by
  obtain ⟨O, h, h2⟩ := h
  exact (h.fetch hm c most).mono fun e w' ⟨he, ha⟩ => ⟨he, NI.of h h2 ha⟩
theorem NI.heard {w W : World} {B : Nat} {s : Np} (h : NI w W B s) (hm : s.m ≤ 70368744177664) (c : Int) : Calls Try.prog 17 #[.pointer (some ⟨B, 0, none⟩), .int .i64 c] W fun e w' => ∃ u, e = .returned (.tuple #[u, .bool (heardN s c)]) ∧ Rw w' W.heap.size 5 u (heardB s c) ∧ NI w w' B s ∧ Fr W w' (fun _ => False) := by
  obtain ⟨O, h, h2⟩ := h
  exact (h.heard hm c).mono fun e w' ⟨u, he, h3, h4⟩ => ⟨u, he, h3, ⟨O, h.still h4, h2.trans h4⟩, h4⟩
theorem NI.is {w W : World} {B : Nat} {s : Np} (h : NI w W B s) (c : Int) : Calls Try.prog 15 #[.pointer (some ⟨B, 0, none⟩), .int .i64 c] W fun e w' => e = .returned (.tuple #[.bool (isO s c), .bool (isT s c)]) ∧ NI w w' B s ∧ Fr W w' (fun _ => False) := by
  obtain ⟨O, h, h2⟩ := h
  exact (h.is c).mono fun e w' ⟨he, h4⟩ => ⟨he, ⟨O, h.still h4, h2.trans h4⟩, h4⟩
theorem NI.under {w W : World} {B : Nat} {s : Np} (h : NI w W B s) (c : Int) : Calls Try.prog 16 #[.pointer (some ⟨B, 0, none⟩), .int .i64 c] W fun e w' => e = .returned (.tuple #[.int .i64 (undI s c : Int), .int .i64 (undO s c : Int)]) ∧ NI w w' B s ∧ Fr W w' (fun _ => False) := by
  obtain ⟨O, h, h2⟩ := h
  exact (h.under c).mono fun e w' ⟨he, h4⟩ => ⟨he, ⟨O, h.still h4, h2.trans h4⟩, h4⟩
theorem NI.moved {w W : World} {B : Nat} {s : Np} (h : NI w W B s) : Calls Try.prog 19 #[.pointer (some ⟨B, 0, none⟩)] W fun e w' => e = .returned (.int .i64 (s.m : Int)) ∧ NI w w' B s ∧ w' = W := by
  obtain ⟨O, h, h2⟩ := h
  exact h.moved.mono fun e w' ⟨he, h4⟩ => ⟨he, by rw [h4]; exact ⟨O, h, h2⟩, h4⟩
theorem NI.take {w W : World} {B : Nat} {s : Np} (h : NI w W B s) (c : Int) : Calls Try.prog 18 #[.pointer (some ⟨B, 0, none⟩), .int .i64 c] W fun e w' => ∃ v, e = .returned (.tuple #[v, .int .i64 (useE s c)]) ∧ Rw w' w.heap.size 5 v (takeB s c) ∧ NI w w' B (takeS s c) := by
  obtain ⟨O, h, h2⟩ := h
  refine (h.take c).mono fun e w' ⟨v, he, O', k1, k2, k3, k4, k5⟩ => ⟨v, he, k4, O', k1, h2.trans2 k3 (fun k hk ho => by have := h.lo k ho; omega)⟩
theorem nnew_i {w : World} (W : World) {a b : Nat} (ha : 1 ≤ a ∧ a ≤ 131072) (hb : 1 ≤ b ∧ b ≤ 131072) (hs : Fr w W (fun _ => False)) : Calls Try.prog 6 #[.int .i64 (a : Int), .int .i64 (b : Int)] W fun e w' => ∃ B, e = .returned (.tuple #[.pointer (some ⟨B, 0, none⟩), .int .i64 0]) ∧ NI w w' B (np0 a b) := by
  refine (nnew_o W ha hb hs.size).mono ?_
  rintro e w' ⟨B, rfl, O, h1, h2, h3⟩
  exact ⟨B, rfl, O, h1, hs.trans h3⟩
end Go.Proofs.Ytedlpefglgleeab
