/- FlowOrder: calls beside a block of another; the append of an item, of a message. -/
import Derived.Test.YtlgbciibhmcokaaXOrdQ
import Derived.Test.YtlgbciibhmcokaaXMany
namespace Go.Proofs.Ytlgbciibhmcokaa
open Go.RowKit

/-- What stays beside a call: a block that lies behind the flow's. -/
def Oc (w W w' : World) (B box : Nat) (s : Ps) (put : List (List It)) (took : List (List Ms)) (Q1 Q2 : Nat) (v1 v2 : List Value) (o : Obj) : Prop := Oo w w' B box s put took Q1 Q2 v1 v2 ∧ w'.heap[W.heap.size]? = some o ∧ W.heap.size < w'.heap.size
theorem Oo.oc {w W w' : World} {B box : Nat} {s s' : Ps} {put : List (List It)} {took : List (List Ms)} {Q1 Q2 : Nat} {v1 v2 : List Value} {O : Nat → Prop} {o : Obj} (h : Oo w W B box s put took Q1 Q2 v1 v2) (h1 : FlO w W B box s O) (h2 : ¬ O Q1) (h3 : ¬ O Q2) (h4 : ∀ i k, i < v1.length → (v1.getD i nil3).ownBlock = some k → ¬ O k) (h5 : ∀ i k, i < v2.length → (v2.getD i nil3).ownBlock = some k → ¬ O k) (ha : FlA w (W.alloc o) w' B box s' O) : Oc w W w' B box s' put took Q1 Q2 v1 v2 o := by
  have hN : ¬ O W.heap.size := fun ho => absurd (h1.lt ho) (Nat.lt_irrefl _)
  obtain ⟨O', a1, a2, a3⟩ := id ha
  have hc : w'.heap[W.heap.size]? = some o := keep_block (heap_last W o _ rfl) a3 hN
  exact ⟨(h.still (alloc_fr W o _)).fla h2 h3 h4 h5 ha, hc, lt_of_block hc⟩
theorem Oo.putB {w W : World} {B box : Nat} {s : Ps} {put : List (List It)} {took : List (List Ms)} {Q1 Q2 : Nat} {v1 v2 : List Value} (h : Oo w W B box s put took Q1 Q2 v1 v2) (o : Obj) (i : Int) (x : It) : Calls Try.prog 16 #[.pointer (some ⟨B, 0, none⟩), .int .i64 i, vI x] (W.alloc o) fun e w' => e = .returned (.int .i64 (putE s i x)) ∧ Oc w W w' B box (putS s i x) put took Q1 Q2 v1 v2 o := by
  obtain ⟨O, h1, h2, h3, h4, h5⟩ := h.ex
  exact ((h1.still (alloc_fr W o _)).put i x).mono fun e w' ⟨he, ha⟩ => ⟨he, h.oc h1 h2 h3 h4 h5 ha⟩
theorem Oo.passB {w W : World} {B box : Nat} {s : Ps} {put : List (List It)} {took : List (List Ms)} {Q1 Q2 : Nat} {v1 v2 : List Value} (h : Oo w W B box s put took Q1 Q2 v1 v2) (o : Obj) (i : Int) : Calls Try.prog 17 #[.pointer (some ⟨B, 0, none⟩), .int .i64 i] (W.alloc o) fun e w' => e = .returned (.tuple #[.int .i64 ((pasR s box i).1 : Int), .int .i64 (pasR s box i).2]) ∧ Oc w W w' B box (pasS s box i) put took Q1 Q2 v1 v2 o := by
  obtain ⟨O, h1, h2, h3, h4, h5⟩ := h.ex
  exact ((h1.still (alloc_fr W o _)).pass i).mono fun e w' ⟨he, ha⟩ => ⟨he, h.oc h1 h2 h3 h4 h5 ha⟩
theorem Oo.takeB {w W : World} {B box : Nat} {s : Ps} {put : List (List It)} {took : List (List Ms)} {Q1 Q2 : Nat} {v1 v2 : List Value} (h : Oo w W B box s put took Q1 Q2 v1 v2) (o : Obj) (i : Int) : Calls Try.prog 18 #[.pointer (some ⟨B, 0, none⟩), .int .i64 i] (W.alloc o) fun e w' => e = .returned (.tuple #[.int .i64 (takR s i).1.s, vI (takR s i).1.x, .int .i64 (takR s i).2]) ∧ Oc w W w' B box (takS s i) put took Q1 Q2 v1 v2 o := by
  obtain ⟨O, h1, h2, h3, h4, h5⟩ := h.ex
  exact ((h1.still (alloc_fr W o _)).take i).mono fun e w' ⟨he, ha⟩ => ⟨he, h.oc h1 h2 h3 h4 h5 ha⟩
theorem Oo.len1 {w W : World} {B box : Nat} {s : Ps} {put : List (List It)} {took : List (List Ms)} {Q1 Q2 : Nat} {v1 v2 : List Value} (h : Oo w W B box s put took Q1 Q2 v1 v2) : v1.length = put.length ∧ v2.length = took.length := ⟨h.p.len, h.t.len⟩
theorem new_at {W : World} {L : List Value} {T : TypeId} : ∀ (j : Nat) (u : Value), L[j]? = some u → (W.alloc (.cells L.toArray T)).drew.cell? ((⟨W.heap.size, 0, none⟩ : Addr).add j) = some u := fun j u hj => by
  have hb : (W.alloc (.cells L.toArray T)).drew.heap[W.heap.size]? = some (.cells L.toArray T (0, 0)) := heap_last W _ _ rfl
  rw [Addr.add_lit, Nat.zero_add, cell_of_row _ W.heap.size j _ _ (0, 0) hb]
  simpa using hj
/-- The step's box, as cells. -/
def BxP (W : World) (N : Nat) (st : Sp) : Prop := W.heap[N]? = some (.cells #[.int .i64 st.k, .int .i64 st.a, .bool st.x.m, .string st.x.k, .int .i64 st.x.t, .int .i64 st.x.v] 35 (0, 0))
theorem BxP.at {W : World} {N : Nat} {st : Sp} (h : BxP W N st) : W.cell? ⟨N, 0, none⟩ = some (.int .i64 st.k) ∧ W.cell? ⟨N, 1, none⟩ = some (.int .i64 st.a) ∧ W.cell? ⟨N, 2, none⟩ = some (.bool st.x.m) ∧ W.cell? ⟨N, 3, none⟩ = some (.string st.x.k) ∧ W.cell? ⟨N, 4, none⟩ = some (.int .i64 st.x.t) ∧ W.cell? ⟨N, 5, none⟩ = some (.int .i64 st.x.v) ∧ N < W.heap.size := by
  have hc : W.heap[N]? = some (.cells #[.int .i64 st.k, .int .i64 st.a, .bool st.x.m, .string st.x.k, .int .i64 st.x.t, .int .i64 st.x.v] 35 (0, 0)) := h
  refine ⟨?_, ?_, ?_, ?_, ?_, ?_, lt_of_block hc⟩ <;> simp [World.cell?, hc]
theorem BxP.fr {W W' : World} {N : Nat} {st : Sp} {S : Nat → Prop} (h : BxP W N st) (hf : Fr W W' S) (hS : ¬ S N) : BxP W' N st := keep_block h hf hS
/-- An item's box. -/
def BxI (W : World) (N : Nat) (x : It) : Prop := W.heap[N]? = some (.cells #[.bool x.m, .string x.k, .int .i64 x.t, .int .i64 x.v] 33 (0, 0))
theorem BxI.at {W : World} {N : Nat} {x : It} (h : BxI W N x) : W.cell? ⟨N, 0, none⟩ = some (.bool x.m) ∧ W.cell? ⟨N, 1, none⟩ = some (.string x.k) ∧ W.cell? ⟨N, 2, none⟩ = some (.int .i64 x.t) ∧ W.cell? ⟨N, 3, none⟩ = some (.int .i64 x.v) ∧ N < W.heap.size := by
  have hc : W.heap[N]? = some (.cells #[.bool x.m, .string x.k, .int .i64 x.t, .int .i64 x.v] 33 (0, 0)) := h
  refine ⟨?_, ?_, ?_, ?_, lt_of_block hc⟩ <;> simp [World.cell?, hc]
end Go.Proofs.Ytlgbciibhmcokaa
