/- OperOwn: three operators apart. -/
import Derived.Test.YtglkjhpkeelajaaVKnown
import Derived.Test.YtglkjhpkeelajaaVDo
namespace Go.Proofs.Ytglkjhpkeelajaa.V
open Go.RowKit Go.Maps
open M (Cl cmpC vC)

/-- An operator's blocks are ahead of a number. -/
def Bel (n : Nat) (x : Ox) : Prop := x.B < n ∧ x.mb < n ∧ x.Bm < n ∧ x.gm < n ∧ x.gv < n
theorem Op.bel {W : World} {x : Ox} {vs : List Vw} {ms : List Int} {L : List Cl} (h : Op W x vs ms L) : Bel W.heap.size x := by
  obtain ⟨r, hr⟩ := h.row
  have l3 := h.marks.lt
  exact ⟨lt_of_block h.cell, h.map.lt, l3.1, l3.2, hr.lt⟩
/-- An operator stays where what turns is none of its blocks. -/
theorem Op.out {W W' : World} {S : Nat → Prop} {x : Ox} {vs : List Vw} {ms : List Int} {L : List Cl} (h : Op W x vs ms L) (hf : Fr W W' S) (hS : ∀ k, S k → k ≠ x.B ∧ k ≠ x.mb ∧ k ≠ x.Bm ∧ k ≠ x.gm ∧ k ≠ x.gv) : Op W' x vs ms L :=
  h.fr hf (fun h => (hS _ h).1 rfl) (fun h => (hS _ h).2.1 rfl) (fun h => (hS _ h).2.2.1 rfl) (fun h => (hS _ h).2.2.2.1 rfl) (fun h => (hS _ h).2.2.2.2 rfl)
/-- Three operators apart, behind a world. -/
structure O3 (w : World) (x y z : Ox) (vs : List Vw) (s1 s2 s3 : Os2) (W : World) : Prop where
  a : Op W x vs s1.ms s1.L
  b : Op W y vs s2.ms s2.L
  c : Op W z vs s3.ms s3.L
  ap : ∃ n m, Bel n x ∧ Beh n y ∧ Bel m y ∧ Beh m z ∧ n ≤ m
  bx : Beh w.heap.size x
  by' : Beh w.heap.size y
  bz : Beh w.heap.size z
  fr : Fr w W (fun _ => False)
theorem O3.step {w : World} {x y z : Ox} {vs : List Vw} {s1 s2 s3 : Os2} {W W' : World} (p : O3 w x y z vs s1 s2 s3 W) (hf : Fr W W' (fun _ => False)) : O3 w x y z vs s1 s2 s3 W' := ⟨p.a.step hf, p.b.step hf, p.c.step hf, p.ap, p.bx, p.by', p.bz, p.fr.trans hf⟩
theorem O3.drew {w : World} {x y z : Ox} {vs : List Vw} {s1 s2 s3 : Os2} {W : World} (p : O3 w x y z vs s1 s2 s3 W) : O3 w x y z vs s1 s2 s3 W.drew := p.step (Fr.refl W _).drew
/-- All blocks are ahead of a number. -/
def Be3 (n : Nat) (x y z : Ox) : Prop := Bel n x ∧ Bel n y ∧ Bel n z
theorem O3.be3 {w : World} {x y z : Ox} {vs : List Vw} {s1 s2 s3 : Os2} {W : World} (p : O3 w x y z vs s1 s2 s3 W) : Be3 W.heap.size x y z := ⟨p.a.bel, p.b.bel, p.c.bel⟩
/-- What lies behind all blocks may turn. -/
theorem O3.keep {w : World} {x y z : Ox} {vs : List Vw} {s1 s2 s3 : Os2} {W W' : World} {S : Nat → Prop} {n : Nat} (p : O3 w x y z vs s1 s2 s3 W) (hb : Be3 n x y z) (hn : w.heap.size ≤ n) (hf : Fr W W' S) (hS : ∀ k, S k → n ≤ k) : O3 w x y z vs s1 s2 s3 W' := by
  obtain ⟨⟨a1, a2, a3, a4, a5⟩, ⟨b1, b2, b3, b4, b5⟩, ⟨c1, c2, c3, c4, c5⟩⟩ := hb
  refine ⟨p.a.out hf (fun k h => ?_), p.b.out hf (fun k h => ?_), p.c.out hf (fun k h => ?_), p.ap, p.bx, p.by', p.bz, p.fr.trans2 hf (fun i hi h => by have := hS _ h; omega)⟩
  all_goals
    have := hS _ h
    omega
/-- What a step of one of them leaves. -/
theorem O3.doA {w : World} {x y z : Ox} {vs : List Vw} {s1 s2 s3 : Os2} {W : World} (p : O3 w x y z vs s1 s2 s3 W) (hb : s1.L.length ≤ 900000000) {q : Sf} (hk : Ks W q.cv q.cs) (hc : CapOk q.cv) :
    Calls Try.prog 23 #[.pointer (some ⟨x.B, 0, none⟩), sfV q] W fun e w' => ∃ u, e = .returned u ∧ O3 w x y z vs (doS vs s1 q) s2 s3 w' ∧ Kw W.heap.size w' u (goS vs s1 q) ∧ Fr W w' (fun b => b = x.gm ∨ b = x.mb) := by
  refine (do_any p.a hb hk hc).mono ?_
  rintro e w' ⟨u, rfl, ho, hku, hf⟩
  obtain ⟨n, m, ⟨a1, a2, a3, a4, a5⟩, ⟨b1, b2, b3, b4, b5⟩, _, ⟨c1, c2, c3, c4, c5⟩, hnm⟩ := p.ap
  have hbx := p.bx
  unfold Beh at hbx
  exact ⟨u, rfl, ⟨ho, p.b.out hf (fun k h => by omega), p.c.out hf (fun k h => by omega), p.ap, p.bx, p.by', p.bz, p.fr.trans2 hf (fun i hi h => by omega)⟩, hku, hf⟩
theorem O3.doB {w : World} {x y z : Ox} {vs : List Vw} {s1 s2 s3 : Os2} {W : World} (p : O3 w x y z vs s1 s2 s3 W) (hb : s2.L.length ≤ 900000000) {q : Sf} (hk : Ks W q.cv q.cs) (hc : CapOk q.cv) :
    Calls Try.prog 23 #[.pointer (some ⟨y.B, 0, none⟩), sfV q] W fun e w' => ∃ u, e = .returned u ∧ O3 w x y z vs s1 (doS vs s2 q) s3 w' ∧ Kw W.heap.size w' u (goS vs s2 q) := by
  refine (do_any p.b hb hk hc).mono ?_
  rintro e w' ⟨u, rfl, ho, hku, hf⟩
  obtain ⟨n, m, ⟨a1, a2, a3, a4, a5⟩, ⟨b1, b2, b3, b4, b5⟩, ⟨d1, d2, d3, d4, d5⟩, ⟨c1, c2, c3, c4, c5⟩, hnm⟩ := p.ap
  have hby := p.by'
  unfold Beh at hby
  exact ⟨u, rfl, ⟨p.a.out hf (fun k h => by omega), ho, p.c.out hf (fun k h => by omega), p.ap, p.bx, p.by', p.bz, p.fr.trans2 hf (fun i hi h => by omega)⟩, hku⟩
theorem O3.doC {w : World} {x y z : Ox} {vs : List Vw} {s1 s2 s3 : Os2} {W : World} (p : O3 w x y z vs s1 s2 s3 W) (hb : s3.L.length ≤ 900000000) {q : Sf} (hk : Ks W q.cv q.cs) (hc : CapOk q.cv) :
    Calls Try.prog 23 #[.pointer (some ⟨z.B, 0, none⟩), sfV q] W fun e w' => ∃ u, e = .returned u ∧ O3 w x y z vs s1 s2 (doS vs s3 q) w' ∧ Kw W.heap.size w' u (goS vs s3 q) ∧ Fr W w' (fun b => b = z.gm ∨ b = z.mb) := by
  refine (do_any p.c hb hk hc).mono ?_
  rintro e w' ⟨u, rfl, ho, hku, hf⟩
  obtain ⟨n, m, ⟨a1, a2, a3, a4, a5⟩, ⟨b1, b2, b3, b4, b5⟩, ⟨d1, d2, d3, d4, d5⟩, ⟨c1, c2, c3, c4, c5⟩, hnm⟩ := p.ap
  have hbz := p.bz
  unfold Beh at hbz
  exact ⟨u, rfl, ⟨p.a.out hf (fun k h => by omega), p.b.out hf (fun k h => by omega), ho, p.ap, p.bx, p.by', p.bz, p.fr.trans2 hf (fun i hi h => by omega)⟩, hku, hf⟩
/-- Take, and what is told of it is one's own. -/
theorem O3.takeA {w : World} {x y z : Ox} {vs : List Vw} {s1 s2 s3 : Os2} {W : World} (p : O3 w x y z vs s1 s2 s3 W) (key : ByteArray) (t : Int) :
    Calls Try.prog 27 #[.pointer (some ⟨x.B, 0, none⟩), .string key, .int .i64 t] W fun e w' => ∃ ao n b k, e = .returned (.tuple #[.slice ao n n, .bool b, .int .i64 k]) ∧ O3 w x y z vs s1 s2 s3 w' ∧ Mine w' (.slice ao n n) n ∧ n ≤ 256 ∧ (∀ k, (Value.slice ao n n).ownBlock = some k → W.heap.size ≤ k) := by
  refine (take_any p.a key t).mono ?_
  rintro e w' ⟨u, rfl, hko, hf⟩
  obtain ⟨ao, rfl⟩ := hko.shape
  refine ⟨ao, _, _, _, rfl, p.step hf, hko.mine, takeL_small p.a.okv p.a.four, fun k hk => ?_⟩
  rcases hko with ⟨h1, _⟩ | ⟨g, rest, h1, h2, _⟩
  · simp only [Value.slice.injEq] at h1
    rw [h1.1] at hk
    simp [Value.ownBlock] at hk
  · simp only [Value.slice.injEq] at h1
    rw [h1.1] at hk
    simp [Value.ownBlock] at hk
    omega
theorem O3.spoil {w : World} {x y z : Ox} {vs : List Vw} {s1 s2 s3 : Os2} {W : World} {n k : Nat} {v : Value} (p : O3 w x y z vs s1 s2 s3 W) (hb : Be3 n x y z) (hn : w.heap.size ≤ n) (hm : Mine W v k) (hk : k ≤ 1000000) (hv : ∀ j, v.ownBlock = some j → n ≤ j) :
    Calls Try.prog 29 #[v] W fun e w' => e = .returned (.tuple #[]) ∧ O3 w x y z vs s1 s2 s3 w' := by
  refine (spoil_any hm hk).mono ?_
  rintro e w' ⟨rfl, hf⟩
  exact ⟨rfl, p.keep hb hn hf hv⟩
theorem O3.liveA {w : World} {x y z : Ox} {vs : List Vw} {s1 s2 s3 : Os2} {W : World} (p : O3 w x y z vs s1 s2 s3 W) (hl : s1.L.length ≤ 1000000000) : Calls Try.prog 16 #[.pointer (some ⟨x.B, 0, none⟩)] W fun e w' => ∃ u, e = .returned u ∧ O3 w x y z vs s1 s2 s3 w' ∧ Kw W.heap.size w' u s1.L ∧ Fr W w' (fun _ => False) := by
  refine (live_any p.a hl).mono ?_
  rintro e w' ⟨u, rfl, hk, hf⟩
  exact ⟨u, rfl, p.step hf, hk, hf⟩
theorem O3.liveC {w : World} {x y z : Ox} {vs : List Vw} {s1 s2 s3 : Os2} {W : World} (p : O3 w x y z vs s1 s2 s3 W) (hl : s3.L.length ≤ 1000000000) : Calls Try.prog 16 #[.pointer (some ⟨z.B, 0, none⟩)] W fun e w' => ∃ u, e = .returned u ∧ O3 w x y z vs s1 s2 s3 w' ∧ Kw W.heap.size w' u s3.L ∧ Fr W w' (fun _ => False) := by
  refine (live_any p.c hl).mono ?_
  rintro e w' ⟨u, rfl, hk, hf⟩
  exact ⟨u, rfl, p.step hf, hk, hf⟩
/-- Three operators, and what may be written over. -/
def O3M (w : World) (x y z : Ox) (vs : List Vw) (s1 s2 s3 : Os2) (v : Value) (n : Nat) (W : World) : Prop := O3 w x y z vs s1 s2 s3 W ∧ Mine W v n
theorem O3M.drew {w : World} {x y z : Ox} {vs : List Vw} {s1 s2 s3 : Os2} {v : Value} {n : Nat} {W : World} (p : O3M w x y z vs s1 s2 s3 v n W) : O3M w x y z vs s1 s2 s3 v n W.drew := ⟨p.1.drew, p.2.fr (Fr.refl W (fun _ => False)).drew (fun _ _ h => h)⟩
theorem O3.takeM {w : World} {x y z : Ox} {vs : List Vw} {s1 s2 s3 : Os2} {W : World} {m : Nat} (p : O3 w x y z vs s1 s2 s3 W) (hm : m ≤ W.heap.size) (key : ByteArray) (t : Int) :
    Calls Try.prog 27 #[.pointer (some ⟨x.B, 0, none⟩), .string key, .int .i64 t] W fun e w' => ∃ ao n b k, e = .returned (.tuple #[.slice ao n n, .bool b, .int .i64 k]) ∧ O3M w x y z vs s1 s2 s3 (.slice ao n n) n w' ∧ n ≤ 256 ∧ (∀ k, (Value.slice ao n n).ownBlock = some k → m ≤ k) :=
  (p.takeA key t).mono fun _ _ ⟨ao, n, b, k, he, h1, h2, h3, h4⟩ => ⟨ao, n, b, k, he, ⟨h1, h2⟩, h3, fun j hj => Nat.le_trans hm (h4 j hj)⟩
theorem Ss.use {w W : World} {b off n cap : Nat} {xs : List Sf} (h : Ss w (.slice (some ⟨b, off, none⟩) n cap) xs) {i : Nat} (hi : i < xs.length) (hf : Fr w W (fun _ => False)) : SfAt W b (off + i * 6) (xs[i]?.getD default) ∧ Ks W (xs[i]?.getD default).cv (xs[i]?.getD default).cs ∧ CapOk (xs[i]?.getD default).cv ∧ b < W.heap.size := by
  obtain ⟨b', off', e, h1, h2, h3, h4⟩ := (h.step hf).at hi
  simp only [Option.some.injEq, Addr.mk.injEq, and_true] at e
  obtain ⟨rfl, rfl⟩ := e
  exact ⟨h1, h2, h3, h4⟩
theorem Kw.beh {b : Nat} {W : World} {v : Value} {L : List Cl} (h : Kw b W v L) : ∀ j, v.ownBlock = some j → b ≤ j := fun _ hj => (h.cells hj).1
end Go.Proofs.Ytglkjhpkeelajaa.V
