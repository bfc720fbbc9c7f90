/- FlowOrder: what was put and what was taken, in memory, beside the flow. -/
import Derived.Test.YtlgbciibhmcokaaXOrdM
import Derived.Test.YtlgbciibhmcokaaXFlow
import Derived.Test.YtlgbciibhmcokaaXSS
import Derived.Test.YtlgbciibhmcokaaXArgs
namespace Go.Proofs.Ytlgbciibhmcokaa
open Go.RowKit

/-- The block of an owned row. -/
theorem own_at {W : World} {lo : Nat} {T : TypeId} {K n : Nat} {v : Value} {L : List Value} (h : W.ownsRow lo T K v n L) {k : Nat} (hk : v.ownBlock = some k) : lo ≤ k ∧ ∃ cs, W.heap[k]? = some (.cells cs T (0, 0)) := by
  rcases h.2 with ⟨rfl, _⟩ | ⟨g, cap, cur, rfl, hb, hg, _⟩
  · simp [Value.ownBlock] at hk
  · simp [Value.ownBlock] at hk
    subst hk
    exact ⟨hb, cur, hg⟩
/-- A flow, what was put at its sources, what its operators took. -/
structure Oo (w W : World) (B box : Nat) (s : Ps) (put : List (List It)) (took : List (List Ms)) (Q1 Q2 : Nat) (v1 v2 : List Value) : Prop where
  ex : ∃ O, FlO w W B box s O ∧ ¬ O Q1 ∧ ¬ O Q2 ∧ (∀ i k, i < v1.length → (v1.getD i nil3).ownBlock = some k → ¬ O k) ∧ (∀ i k, i < v2.length → (v2.getD i nil3).ownBlock = some k → ¬ O k)
  p : SS elI 33 45 4 w.heap.size W Q1 v1 put
  t : SS elM 52 50 5 w.heap.size W Q2 v2 took
  b1 : w.heap.size ≤ Q1
  b2 : w.heap.size ≤ Q2
theorem Oo.fr {w W : World} {B box : Nat} {s : Ps} {put : List (List It)} {took : List (List Ms)} {Q1 Q2 : Nat} {v1 v2 : List Value} (h : Oo w W B box s put took Q1 Q2 v1 v2) : Fr w W (fun _ => False) := by
  obtain ⟨O, h1, _⟩ := h.ex
  exact h1.fr
theorem Oo.wf {w W : World} {B box : Nat} {s : Ps} {put : List (List It)} {took : List (List Ms)} {Q1 Q2 : Nat} {v1 v2 : List Value} (h : Oo w W B box s put took Q1 Q2 v1 v2) : Wf s box := by
  obtain ⟨O, h1, _⟩ := h.ex
  exact h1.wf
theorem Oo.still {w W W' : World} {B box : Nat} {s : Ps} {put : List (List It)} {took : List (List Ms)} {Q1 Q2 : Nat} {v1 v2 : List Value} (h : Oo w W B box s put took Q1 Q2 v1 v2) (hf : Fr W W' (fun _ => False)) : Oo w W' B box s put took Q1 Q2 v1 v2 := by
  obtain ⟨O, h1, h2⟩ := h.ex
  exact ⟨⟨O, h1.still hf, h2⟩, h.p.still hf, h.t.still hf, h.b1, h.b2⟩
theorem Oo.fla {w W w' : World} {B box : Nat} {s s' : Ps} {put : List (List It)} {took : List (List Ms)} {Q1 Q2 : Nat} {v1 v2 : List Value} {O : Nat → Prop} (h : Oo w W B box s put took Q1 Q2 v1 v2) (h2 : ¬ O Q1) (h3 : ¬ O Q2) (h4 : ∀ i k, i < v1.length → (v1.getD i nil3).ownBlock = some k → ¬ O k) (h5 : ∀ i k, i < v2.length → (v2.getD i nil3).ownBlock = some k → ¬ O k) (ha : FlA w W w' B box s' O) : Oo w w' B box s' put took Q1 Q2 v1 v2 := by
  obtain ⟨O', a1, a2, a3⟩ := ha
  have l1 : Q1 < W.heap.size := lt_of_block h.p.row
  have l2 : Q2 < W.heap.size := lt_of_block h.t.row
  have new : ∀ k, k < W.heap.size → ¬ O k → ¬ O' k := fun k hk ho ho' => by
    rcases a2 k ho' with h' | h'
    · exact ho h'
    · omega
  exact ⟨⟨O', a1, new _ l1 h2, new _ l2 h3, fun i k hi hk => new k (own_lt (h.p.own i hi) hk) (h4 i k hi hk), fun i k hi hk => new k (own_lt (h.t.own i hi) hk) (h5 i k hi hk)⟩, h.p.fr a3 h2 h4, h.t.fr a3 h3 h5, h.b1, h.b2⟩
theorem Oo.put {w W : World} {B box : Nat} {s : Ps} {put : List (List It)} {took : List (List Ms)} {Q1 Q2 : Nat} {v1 v2 : List Value} (h : Oo w W B box s put took Q1 Q2 v1 v2) (i : Int) (x : It) : Calls Try.prog 16 #[.pointer (some ⟨B, 0, none⟩), .int .i64 i, vI x] W fun e w' => e = .returned (.int .i64 (putE s i x)) ∧ Oo w w' B box (putS s i x) put took Q1 Q2 v1 v2 := by
  obtain ⟨O, h1, h2, h3, h4, h5⟩ := h.ex
  exact (h1.put i x).mono fun e w' ⟨he, ha⟩ => ⟨he, h.fla h2 h3 h4 h5 ha⟩
theorem Oo.pass {w W : World} {B box : Nat} {s : Ps} {put : List (List It)} {took : List (List Ms)} {Q1 Q2 : Nat} {v1 v2 : List Value} (h : Oo w W B box s put took Q1 Q2 v1 v2) (i : Int) : Calls Try.prog 17 #[.pointer (some ⟨B, 0, none⟩), .int .i64 i] W fun e w' => e = .returned (.tuple #[.int .i64 ((pasR s box i).1 : Int), .int .i64 (pasR s box i).2]) ∧ Oo w w' B box (pasS s box i) put took Q1 Q2 v1 v2 := by
  obtain ⟨O, h1, h2, h3, h4, h5⟩ := h.ex
  exact (h1.pass i).mono fun e w' ⟨he, ha⟩ => ⟨he, h.fla h2 h3 h4 h5 ha⟩
theorem Oo.take {w W : World} {B box : Nat} {s : Ps} {put : List (List It)} {took : List (List Ms)} {Q1 Q2 : Nat} {v1 v2 : List Value} (h : Oo w W B box s put took Q1 Q2 v1 v2) (i : Int) : Calls Try.prog 18 #[.pointer (some ⟨B, 0, none⟩), .int .i64 i] W fun e w' => e = .returned (.tuple #[.int .i64 (takR s i).1.s, vI (takR s i).1.x, .int .i64 (takR s i).2]) ∧ Oo w w' B box (takS s i) put took Q1 Q2 v1 v2 := by
  obtain ⟨O, h1, h2, h3, h4, h5⟩ := h.ex
  exact (h1.take i).mono fun e w' ⟨he, ha⟩ => ⟨he, h.fla h2 h3 h4 h5 ha⟩
theorem Oo.empty {w W : World} {B box : Nat} {s : Ps} {put : List (List It)} {took : List (List Ms)} {Q1 Q2 : Nat} {v1 v2 : List Value} (h : Oo w W B box s put took Q1 Q2 v1 v2) : Calls Try.prog 19 #[.pointer (some ⟨B, 0, none⟩)] W fun e w' => e = .returned (.bool (empB s)) ∧ Oo w w' B box s put took Q1 Q2 v1 v2 := by
  obtain ⟨O, h1, _⟩ := h.ex
  exact h1.empty.mono fun e w' ⟨he, ha⟩ => ⟨he, h.still ha⟩
theorem Oo.route {w W : World} {B box : Nat} {s : Ps} {put : List (List It)} {took : List (List Ms)} {Q1 Q2 : Nat} {v1 v2 : List Value} (h : Oo w W B box s put took Q1 Q2 v1 v2) (k : ByteArray) (hk : k.size ≤ 9223372036854775807) : Calls Try.prog 13 #[.pointer (some ⟨B, 0, none⟩), .string k] W fun e w' => e = .returned (.int .i64 (rtF s.b.length k : Int)) ∧ Fr W w' (fun _ => False) := by
  obtain ⟨O, h1, _⟩ := h.ex
  exact h1.route k hk
/-- One item more at source i. -/
theorem Oo.appP {w W W1 : World} {B box : Nat} {s : Ps} {put : List (List It)} {took : List (List Ms)} {Q1 Q2 : Nat} {v1 v2 : List Value} (h : Oo w W B box s put took Q1 Q2 v1 v2) {i : Nat} (hi : i < v1.length) (hf : Fr W W1 (fun k => (v1.getD i nil3).ownBlock = some k)) {v' : Value} {L' : List It} (ho : W1.ownsRow w.heap.size 33 4 v' L'.length (fl elI L')) (hn : Nw W (v1.getD i nil3) v') :
    (∃ u, W1.cell? ⟨Q1, i, none⟩ = some u) ∧ W1.frozen? ⟨Q1, i, none⟩ = false ∧ Q1 < W1.heap.size ∧ Oo w (W1.setCell ⟨Q1, i, none⟩ v') B box s (put.set i L') took Q1 Q2 (v1.set i v') v2 := by
  obtain ⟨O, h1, h2, h3, h4, h5⟩ := h.ex
  obtain ⟨c1, c2, c3, c4, c5⟩ := h.p.set (by decide) hi hf ho hn
  refine ⟨c1, c2, c3, ⟨O, ?_, h2, h3, fun j k hj hk => ?_, h5⟩, c4, h.t.fr c5 (fun e => ?_) (fun j k hj hk e => ?_), h.b1, h.b2⟩
  · refine h1.step c5 (fun k hk e => ?_) (fun k e => ?_)
    · rcases e with rfl | e
      · exact h2 hk
      · exact h4 i k hi e hk
    · rcases e with rfl | e
      · exact h.b1
      · exact (own_at (h.p.own i hi) e).1
  · rw [List.length_set] at hj
    rw [getD_set_if hi] at hk
    split at hk
    · rcases hn k hk with h' | h'
      · exact h4 i k hi h'
      · intro ho'; have := h1.lt ho'; omega
    · exact h4 j k hj hk
  · have hr := h.t.row
    rcases e with rfl | e
    · rw [h.p.row] at hr; cases hr
    · obtain ⟨_, cs, hcs⟩ := own_at (h.p.own i hi) e
      rw [hcs] at hr; cases hr
  · obtain ⟨_, cs, hcs⟩ := own_at (h.t.own j hj) hk
    rcases e with rfl | e
    · rw [h.p.row] at hcs; cases hcs
    · obtain ⟨_, cs2, hcs2⟩ := own_at (h.p.own i hi) e
      rw [hcs2] at hcs; cases hcs
/-- One message more that operator j took. -/
theorem Oo.appT {w W W1 : World} {B box : Nat} {s : Ps} {put : List (List It)} {took : List (List Ms)} {Q1 Q2 : Nat} {v1 v2 : List Value} (h : Oo w W B box s put took Q1 Q2 v1 v2) {i : Nat} (hi : i < v2.length) (hf : Fr W W1 (fun k => (v2.getD i nil3).ownBlock = some k)) {v' : Value} {L' : List Ms} (ho : W1.ownsRow w.heap.size 52 5 v' L'.length (fl elM L')) (hn : Nw W (v2.getD i nil3) v') :
    (∃ u, W1.cell? ⟨Q2, i, none⟩ = some u) ∧ W1.frozen? ⟨Q2, i, none⟩ = false ∧ Q2 < W1.heap.size ∧ Oo w (W1.setCell ⟨Q2, i, none⟩ v') B box s put (took.set i L') Q1 Q2 v1 (v2.set i v') := by
  obtain ⟨O, h1, h2, h3, h4, h5⟩ := h.ex
  obtain ⟨c1, c2, c3, c4, c5⟩ := h.t.set (by decide) hi hf ho hn
  refine ⟨c1, c2, c3, ⟨O, ?_, h2, h3, h4, fun j k hj hk => ?_⟩, h.p.fr c5 (fun e => ?_) (fun j k hj hk e => ?_), c4, h.b1, h.b2⟩
  · refine h1.step c5 (fun k hk e => ?_) (fun k e => ?_)
    · rcases e with rfl | e
      · exact h3 hk
      · exact h5 i k hi e hk
    · rcases e with rfl | e
      · exact h.b2
      · exact (own_at (h.t.own i hi) e).1
  · rw [List.length_set] at hj
    rw [getD_set_if hi] at hk
    split at hk
    · rcases hn k hk with h' | h'
      · exact h5 i k hi h'
      · intro ho'; have := h1.lt ho'; omega
    · exact h5 j k hj hk
  · have hr := h.p.row
    rcases e with rfl | e
    · rw [h.t.row] at hr; cases hr
    · obtain ⟨_, cs, hcs⟩ := own_at (h.t.own i hi) e
      rw [hcs] at hr; cases hr
  · obtain ⟨_, cs, hcs⟩ := own_at (h.p.own j hj) hk
    rcases e with rfl | e
    · rw [h.t.row] at hcs; cases hcs
    · obtain ⟨_, cs2, hcs2⟩ := own_at (h.t.own i hi) e
      rw [hcs2] at hcs; cases hcs
end Go.Proofs.Ytlgbciibhmcokaa
