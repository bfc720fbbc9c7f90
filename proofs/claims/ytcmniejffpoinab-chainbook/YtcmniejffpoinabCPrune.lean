/- chain: Prune: a walk. -/
import Derived.Test.YtcmniejffpoinabCNeed
import Derived.Test.YtcmniejffpoinabCLay
import Derived.ArgAppend
import Derived.Deep.DeepMust
namespace Go.Proofs.Ytcmniejffpoinab
open Go.RowKit

/-- A block that holds versions, and more behind them. -/
def RowR (w : World) (g : Nat) (R : List Vn) (rest : List Value) : Prop := w.heap[g]? = some (.cells (vc R ++ rest).toArray 48 (0, 0))
theorem RowR.lt {w : World} {g : Nat} {R : List Vn} {rest : List Value} (h : RowR w g R rest) : g < w.heap.size := lt_of_block h
theorem RowR.fr {w w' : World} {S : Nat → Prop} {g : Nat} {R : List Vn} {rest : List Value} (h : RowR w g R rest) (hf : Fr w w' S) (hS : ¬ S g) : RowR w' g R rest := by
  unfold RowR
  rw [hf.block g h.lt hS]
  exact h
theorem RowR.free {w : World} {g : Nat} {R : List Vn} {rest : List Value} (h : RowR w g R rest) (o : Nat) : w.frozen? ⟨g, o, none⟩ = false := by
  have h' : w.heap[g]? = some (.cells (vc R ++ rest).toArray 48 (0, 0)) := h
  simp [World.frozen?, h']
theorem RowR.cells {w : World} {g : Nat} {R : List Vn} {rest : List Value} (h : RowR w g R rest) (i : Nat) (hi : i < R.length) : w.cell? ⟨g, i * 3, none⟩ = some (.int .i64 (R.getD i z0).e) ∧ w.cell? ⟨g, i * 3 + 1, none⟩ = some (.bool (R.getD i z0).t) ∧ w.cell? ⟨g, i * 3 + 2, none⟩ = some (.int .i64 (R.getD i z0).v) := by
  obtain ⟨h1, h2, h3⟩ := vc_get R i hi
  have hl := vc_length R
  refine ⟨?_, ?_, ?_⟩
  · rw [cell_of_row w g _ _ _ (0, 0) h]
    simp [List.getElem?_append_left (show i * 3 < (vc R).length by omega), h1]
  · rw [cell_of_row w g _ _ _ (0, 0) h]
    simp [List.getElem?_append_left (show i * 3 + 1 < (vc R).length by omega), h2]
  · rw [cell_of_row w g _ _ _ (0, 0) h]
    simp [List.getElem?_append_left (show i * 3 + 2 < (vc R).length by omega), h3]
theorem RowR.some {w : World} {g : Nat} {R : List Vn} {rest : List Value} (h : RowR w g R rest) (o : Nat) (ho : o < R.length * 3 + rest.length) : (w.cell? ⟨g, o, none⟩).isSome = true := by
  rw [cell_of_row w g _ _ _ (0, 0) h]
  simp [vc_length]
  exact ho
theorem RowR.set {w : World} {g : Nat} {R : List Vn} {rest : List Value} (h : RowR w g R rest) (i : Nat) (hi : i < R.length) (x : Vn) : RowR (set3 w g (i * 3) x) g (R.set i x) rest := by
  have h1 := heap_setCell_same w g (i * 3) _ _ (.int .i64 x.e) h
  have h2 := heap_setCell_same _ g (i * 3 + 1) _ _ (.bool x.t) h1
  have h3 := heap_setCell_same _ g (i * 3 + 2) _ _ (.int .i64 x.v) h2
  unfold RowR set3
  rw [h3, vc_set R i x hi]
  have hl := vc_length R
  congr 2
  apply Array.ext'
  simp only [Array.toList_setIfInBounds]
  rw [List.set_append_left _ _ (by omega), List.set_append_left _ _ (by simp; omega), List.set_append_left _ _ (by simp; omega)]
theorem row_sets {g : Nat} {e : TypeId} : ∀ (us : List Value) (o : Nat) {w : World} {vs : List Value}, w.heap[g]? = .some (.cells vs.toArray e (0, 0)) → ∃ vs' : List Value, (w.setCells g o us).heap[g]? = .some (.cells vs'.toArray e (0, 0)) ∧ vs'.length = vs.length ∧ vs'.take o = vs.take o
  | [], _, _, vs, h => ⟨vs, h, rfl, rfl⟩
  | u :: us, o, w, vs, h => by
    have h0 : (w.setCell ⟨g, o, none⟩ u).heap[g]? = .some (.cells (vs.set o u).toArray e (0, 0)) := by
      rw [heap_setCell_same w g o _ _ _ h]
      congr 2
      apply Array.ext'
      simp
    obtain ⟨vs', h1, h2, h3⟩ := row_sets us (o + 1) h0
    refine ⟨vs', h1, by rw [h2, List.length_set], ?_⟩
    have e : vs'.take o = (vs'.take (o + 1)).take o := by rw [List.take_take]; congr 1; omega
    rw [e, h3, List.take_take, show min o (o + 1) = o by omega, List.take_set_of_le (Nat.le_refl _)]
theorem Fr.sets {g : Nat} {S : Nat → Prop} {a : World} (hg : g < a.heap.size → S g) : ∀ (us : List Value) (o : Nat) (w : World), Fr a w S → Fr a (w.setCells g o us) S
  | [], _, _, h => h
  | u :: us, o, _, h => Fr.sets hg us (o + 1) _ (h.setCell hg u)

/-- A row of a block, whole, is owned. -/
theorem rowR_own {w : World} {base g cap : Nat} {R : List Vn} {rest : List Value} (h : RowR w g R rest) (hb : base ≤ g) (hcap : R.length * 3 + rest.length = cap * 3) (hm : cap ≤ 140737488355328) (k : Nat) (hk : k ≤ R.length) : w.ownsRow base 48 3 (.slice (.some ⟨g, 0, none⟩) k cap) k (vc (R.take k)) := by
  have hl := vc_length R
  refine ⟨by rw [vc_length, List.length_take]; congr 1; omega, Or.inr ⟨g, cap, (vc R ++ rest).toArray, rfl, hb, h, by omega, by unfold maxLen; omega, by simp; omega, ?_⟩⟩
  rw [List.toList_toArray, List.take_append_of_le_length (by omega), vc_take]
theorem own_rowR {w : World} {base g cap : Nat} {L : List Vn} (h : w.ownsRow base 48 3 (.slice (.some ⟨g, 0, none⟩) L.length cap) L.length (vc L)) : ∃ rest, RowR w g L rest ∧ L.length * 3 + rest.length = cap * 3 ∧ base ≤ g ∧ cap ≤ 9223372036854775807 := by
  rcases h.2 with ⟨h', _⟩ | ⟨g', cap', cur, h', hb, hg, hn, hm, hcs, htake⟩
  · simp at h'
  · simp only [Value.slice.injEq, Option.some.injEq, Addr.mk.injEq, and_true, true_and] at h'
    obtain ⟨rfl, rfl⟩ := h'
    refine ⟨cur.toList.drop (L.length * 3), ?_, ?_, hb, by unfold maxLen at hm; omega⟩
    · unfold RowR
      rw [hg]
      congr 2
      apply Array.ext'
      rw [List.toList_toArray, ← htake, List.take_append_drop]
    · simp
      omega

/-- append where there is room, of one version. -/
theorem append_room {w : World} {ops : Array Oper} {rest : List Oper} {o : Oper} {a : Act} {Q : Exit → Act → World → Prop} (hgd : o.guard = none) (s x : Operand)
    (ho : o.op = .call { callee := .builtin .append, args := #[s, x], argTypes := #[41, 41] })
    (g k cap : Nat) (hs : a.eval s = .slice (.some ⟨g, 0, none⟩) k cap) (N : Nat) (y : Vn) (hx : a.eval x = .slice (.some ⟨N, 0, none⟩) 1 1)
    (hy : w.heap[N]? = .some (.cells #[.int .i64 y.e, .bool y.t, .int .i64 y.v] 48 (0, 0))) (R : List Vn) (r : List Value) (hR : RowR w g R r) (hk : k < R.length) (hc : R.length ≤ cap)
    (h : wpList Try.prog ops Q rest (a.put o.dst (.slice (.some ⟨g, 0, none⟩) (k + 1) cap)) (set3 w g (k * 3) y)) :
    wpList Try.prog ops Q (o :: rest) a w := by
  obtain ⟨i0, hi, hz0, hz1, hz2⟩ := info_parts Try.info_vn
  have hn := cells3 hy
  have hr := run_append_room_cells (P := Try.prog) w 41 o.type 48 i0 Try.underlying41 hi g 0 k cap ⟨N, 0, none⟩ 1 1 [.int .i64 y.e, .bool y.t, .int .i64 y.v] (by rw [hz1]; rfl)
    (fun j u hj => by
      match j, hj with
      | 0, hj => simp at hj; subst hj; simpa [Addr.add] using hn.1
      | 1, hj => simp at hj; subst hj; simpa [Addr.add] using hn.2.1
      | 2, hj => simp at hj; subst hj; simpa [Addr.add] using hn.2.2)
    (fun u hu => by simp at hu; rcases hu with rfl | rfl | rfl <;> rfl) (by omega)
    (fun j hj => by simp at hj; rw [hz1]; exact hR.some _ (by omega)) (fun j _ => hR.free _)
  rw [hz1, Nat.zero_add] at hr
  refine wpList_plain hgd fun K hK => ?_
  unfold Oper.wp execOp
  simp only [ho, resolve, invoke, builtin, Sem.run_bind, Sem.run_pure, Result.andThen_ok, List.map_toArray, List.map_cons, List.map_nil, hs, hx, hr]
  exact hK _ _ h

/-- clear of a row's end. -/
theorem clear_end {w : World} (g k n : Nat) (R : List Vn) (r : List Value) (hR : RowR w g R r) (hk : k + n ≤ R.length) (hn : 0 < n) :
    ∃ us : List Value, ∀ (ty : TypeId) (c : Nat), (Builtin.clear_ #[41] ty #[.slice (.some ⟨g, k * 3, none⟩) n c]).run Try.prog w = .ok (.tuple #[]) (w.setCells g (k * 3) us) := by
  refine ⟨(Builtin.zeroCells #[Value.int .i64 0, .bool false, .int .i64 0] n).toList, fun ty c => ?_⟩
  have hl : (Builtin.zeroCells #[Value.int .i64 0, .bool false, .int .i64 0] n).toList.length = n * 3 := by simp [Builtin.zeroCells]
  have hst := run_storeCells_cells (P := Try.prog) g (k * 3) (Builtin.zeroCells #[Value.int .i64 0, .bool false, .int .i64 0] n).toList 0 w (fun j hj => hR.some _ (by omega)) (fun j hj => hR.free _) (by
    intro v hv
    simp [Builtin.zeroCells] at hv
    obtain ⟨i, _, rfl⟩ := hv
    have h3 : i % 3 < 3 := Nat.mod_lt _ (by decide)
    match hq : i % 3, h3 with
    | 0, _ => rfl
    | 1, _ => rfl
    | 2, _ => rfl)
  simp only [Nat.add_zero] at hst
  obtain ⟨m, rfl⟩ : ∃ m, n = m + 1 := ⟨n - 1, by omega⟩
  simp [Builtin.clear_, run_underlying Try.underlying41, Value.cells, hst]
theorem clear_none {w : World} (ty : TypeId) (ao : Option Addr) (c : Nat) : (Builtin.clear_ #[41] ty #[.slice ao 0 c]).run Try.prog w = .ok (.tuple #[]) w := by
  cases ao <;> simp [Builtin.clear_, run_underlying Try.underlying41]

/-- What stands in the rounds of Prune: the first k places hold what is kept of the first i, from i on the row is as it was. -/
structure PI (w wx : World) (B g NB cap : Nat) (L : List Vn) (l : List Bool) (rest : List Value) (R : List Vn) (i k : Nat) : Prop where
  bc : wx.heap[B]? = .some (.cells #[.slice (.some ⟨g, 0, none⟩) L.length cap] 43 (0, 0))
  row : RowR wx g R rest
  st : RowB wx NB l
  fr : Fr w wx (fun q => q = g)
  len : R.length = L.length
  pre : R.take k = keepB (L.take i) (l.take i)
  klen : k = (keepB (L.take i) (l.take i)).length
  post : ∀ q, i ≤ q → R.getD q z0 = L.getD q z0
theorem PI.le {w wx : World} {B g NB cap : Nat} {L : List Vn} {l : List Bool} {rest : List Value} {R : List Vn} {i k : Nat} (h : PI w wx B g NB cap L l rest R i k) : k ≤ i := by
  have := keepB_len (L.take i) (l.take i)
  rw [← h.klen, List.length_take] at this
  omega
theorem PI.step {w wx wy : World} {B g NB cap : Nat} {L : List Vn} {l : List Bool} {rest : List Value} {R : List Vn} {i k : Nat} (h : PI w wx B g NB cap L l rest R i k) (hf : Fr wx wy (fun _ => False)) : PI w wy B g NB cap L l rest R i k :=
  ⟨(hf.block B (lt_of_block h.bc) (fun h => h)).trans h.bc, h.row.fr hf (fun h => h), h.st.fr hf (fun h => h), h.fr.trans (hf.mono (fun _ _ h => h.elim)), h.len, h.pre, h.klen, h.post⟩
theorem PI.skip {w wx : World} {B g NB cap : Nat} {L : List Vn} {l : List Bool} {rest : List Value} {R : List Vn} {i k : Nat} (h : PI w wx B g NB cap L l rest R i k) (hi : i < L.length) (hl : l.length = L.length) (hb : l.getD i false = false) : PI w wx B g NB cap L l rest R (i + 1) k := by
  have e := keepB_take i hi hl
  rw [hb] at e
  simp only [Bool.false_eq_true, if_false, List.append_nil] at e
  exact ⟨h.bc, h.row, h.st, h.fr, h.len, by rw [e]; exact h.pre, by rw [e]; exact h.klen, fun q hq => h.post q (by omega)⟩
theorem PI.put {w wx : World} {B g NB cap : Nat} {L : List Vn} {l : List Bool} {rest : List Value} {R : List Vn} {i k : Nat} (h : PI w wx B g NB cap L l rest R i k) (hi : i < L.length) (hl : l.length = L.length) (hb : l.getD i false = true) (hB : B ≠ g) (hN : NB ≠ g) : PI w (set3 wx g (k * 3) (L.getD i z0)) B g NB cap L l rest (R.set k (L.getD i z0)) (i + 1) (k + 1) := by
  have e := keepB_take i hi hl
  rw [hb] at e
  simp only [if_true] at e
  have hk := h.le
  have hlen := h.len
  have hf := set3_fr wx g (k * 3) (L.getD i z0) (Fr.refl wx (fun q => q = g)) (fun _ => rfl)
  refine ⟨(hf.block B (lt_of_block h.bc) hB).trans h.bc, h.row.set k (by omega) _, h.st.fr hf hN, h.fr.trans hf, by simp [hlen], ?_, ?_, fun q hq => ?_⟩
  · rw [e, List.take_add_one, List.take_set_of_le (Nat.le_refl _), h.pre, List.getElem?_set_self (by omega)]
    rfl
  · rw [e, List.length_append, ← h.klen]
    rfl
  · have := h.post q (by omega)
    simp only [List.getD] at this ⊢
    rw [List.getElem?_set_ne (by omega)]
    exact this

/-- The end of Prune: the row's end is cleared, the slice is stored. -/
theorem PI.fin {w wx : World} {base B g NB cap : Nat} {L : List Vn} {l : List Bool} {rest : List Value} {R : List Vn} {i k : Nat} (h : PI w wx B g NB cap L l rest R i k) (us : List Value) (k' : Nat) (hk : k' ≤ k) (hkL : k ≤ L.length) (hb : base ≤ g) (hcap : L.length * 3 + rest.length = cap * 3) (hc2 : cap ≤ 9223372036854775807) (hB : B ≠ g) (K : List Vn) (hK : R.take k' = K) (hg : Good K) (hl : L.length ≤ 1000000) :
    Ch ((wx.setCells g (k' * 3) us).setCell ⟨B, 0, none⟩ (.slice (.some ⟨g, 0, none⟩) k' cap)) base B (.slice (.some ⟨g, 0, none⟩) k' cap) K ∧ Fr w ((wx.setCells g (k' * 3) us).setCell ⟨B, 0, none⟩ (.slice (.some ⟨g, 0, none⟩) k' cap)) (fun q => q = B ∨ (Value.slice (.some ⟨g, 0, none⟩) L.length cap).ownBlock = .some q) := by
  have hlen := h.len
  have hKl : K.length = k' := by rw [← hK, List.length_take]; omega
  obtain ⟨vs, h1, h2, h3⟩ := row_sets us (k' * 3) h.row
  have hf := Fr.sets (g := g) (S := fun q => q = g) (fun _ => rfl) us (k' * 3) _ (Fr.refl wx (fun q => q = g))
  have hbc := (hf.block B (lt_of_block h.bc) hB).trans h.bc
  have hvl := vc_length R
  refine ⟨⟨one_setCell hbc, ?_, hg, by omega⟩, ?_⟩
  · refine ownsRow_setCell_other (a := ⟨B, 0, none⟩) ?_ (by simp [Value.ownBlock]; exact Ne.symm hB) _
    rw [hKl]
    refine ⟨by rw [vc_length, hKl], Or.inr ⟨g, cap, _, rfl, hb, h1, by omega, by unfold maxLen; omega, by simp [h2]; omega, ?_⟩⟩
    rw [List.toList_toArray, h3, List.take_append_of_le_length (by omega), ← hK, vc_take]
  · have h0 : Fr w (wx.setCells g (k' * 3) us) (fun q => q = B ∨ (Value.slice (.some ⟨g, 0, none⟩) L.length cap).ownBlock = .some q) := (h.fr.trans hf).mono (fun q _ e => Or.inr (by subst e; rfl))
    exact h0.setCell (p := ⟨B, 0, none⟩) (fun _ => Or.inl rfl) _
theorem clear_any {w : World} (g k : Nat) (R : List Vn) (r : List Value) (hR : RowR w g R r) (hk : k ≤ R.length) (n : Nat) (hn : n = R.length) :
    ∃ us : List Value, ∀ (ty : TypeId) (c : Nat), (Builtin.clear_ #[41] ty #[.slice (.some ⟨g, k * 3, none⟩) (n - k) c]).run Try.prog w = .ok (.tuple #[]) (w.setCells g (k * 3) us) := by
  subst hn
  by_cases h : R.length - k = 0
  · refine ⟨[], fun ty c => ?_⟩
    rw [h]
    exact clear_none ty _ c
  · exact clear_end g k (R.length - k) R r hR (by omega) (by omega)
theorem PI.after {w wx : World} {B g NB cap : Nat} {L : List Vn} {l : List Bool} {rest : List Value} {R : List Vn} {i k : Nat} (h : PI w wx B g NB cap L l rest R i k) (hB : B ≠ g) (o : Nat) (us : List Value) : (wx.setCells g o us).cell? ⟨B, 0, none⟩ = .some (.slice (.some ⟨g, 0, none⟩) L.length cap) ∧ (wx.setCells g o us).frozen? ⟨B, 0, none⟩ = false ∧ B < (wx.setCells g o us).heap.size := by
  have hf := Fr.sets (g := g) (S := fun q => q = g) (fun _ => rfl) us o _ (Fr.refl wx (fun q => q = g))
  have hbc := (hf.block B (lt_of_block h.bc) hB).trans h.bc
  exact ⟨cell_of_one hbc, free_of_one hbc, lt_of_block hbc⟩
end Go.Proofs.Ytcmniejffpoinab
