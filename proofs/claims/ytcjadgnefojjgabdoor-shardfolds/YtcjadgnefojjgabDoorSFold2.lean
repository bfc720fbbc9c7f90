/- ShardFolds: rows of aggregates, rows that came in. -/
import Derived.Test.YtcjadgnefojjgabDoorSFold1
namespace Go.Proofs.YtcjadgnefojjgabDoor.S
open Go.RowKit G

def fc : List A4 → List Value
  | [] => []
  | a :: F => .int .i64 a.c :: .int .i64 a.s :: .int .i64 a.m :: .int .i64 a.x :: fc F
theorem fc_append (a b : List A4) : fc (a ++ b) = fc a ++ fc b := by
  induction a with
  | nil => rfl
  | cons x a ih => simp [fc, ih]
theorem fc_length (F : List A4) : (fc F).length = F.length * 4 := by
  induction F with
  | nil => rfl
  | cons x F ih => simp only [fc, List.length_cons, ih]; omega
theorem fc_get : ∀ (F : List A4) (i : Nat), i < F.length → (fc F)[i * 4]? = some (.int .i64 (F.getD i a0).c) ∧ (fc F)[i * 4 + 1]? = some (.int .i64 (F.getD i a0).s) ∧ (fc F)[i * 4 + 2]? = some (.int .i64 (F.getD i a0).m) ∧ (fc F)[i * 4 + 3]? = some (.int .i64 (F.getD i a0).x)
  | [], i, h => by simp at h
  | x :: L, 0, _ => ⟨rfl, rfl, rfl, rfl⟩
  | x :: L, i + 1, h => by
    have := fc_get L i (by simpa using h)
    rw [show (i + 1) * 4 = i * 4 + 4 by omega]
    simpa [fc] using this
theorem fc_set : ∀ (F : List A4) (i : Nat) (x : A4), i < F.length → fc (F.set i x) = ((((fc F).set (i * 4) (.int .i64 x.c)).set (i * 4 + 1) (.int .i64 x.s)).set (i * 4 + 2) (.int .i64 x.m)).set (i * 4 + 3) (.int .i64 x.x)
  | [], i, x, h => by simp at h
  | y :: F, 0, x, _ => rfl
  | y :: F, i + 1, x, h => by
    have := fc_set F i x (by simpa using h)
    rw [show (i + 1) * 4 = i * 4 + 4 by omega]
    simp [fc, this]
/-- A row of aggregates of one's own. -/
def FO (w wx : World) (v : Value) (F : List A4) : Prop := wx.ownsRow w.heap.size 34 4 v F.length (fc F)
theorem FO.nil (w wx : World) : FO w wx (.slice none 0 0) [] := ⟨rfl, Or.inl ⟨rfl, rfl⟩⟩
theorem FO.shape {w wx : World} {v : Value} {F : List A4} (h : FO w wx v F) : ∃ ao cap, v = .slice ao F.length cap := own_nil_shape h
theorem FO.kd {w wx : World} {v : Value} {F : List A4} (h : FO w wx v F) : ∀ k, v.ownBlock = some k → Kd wx k 34 ∧ w.heap.size ≤ k := by
  intro k hk
  rcases h.2 with ⟨rfl, _⟩ | ⟨g, cap, cur, rfl, hb, hg, _⟩
  · simp [Value.ownBlock] at hk
  · have : g = k := by simpa [Value.ownBlock] using hk
    subst this
    exact ⟨⟨_, hg⟩, hb⟩
theorem FO.fr {w wx w' : World} {v : Value} {F : List A4} {P : Nat → Prop} (h : FO w wx v F) (hf : Fr wx w' P) (hP : ∀ k, v.ownBlock = some k → ¬ P k) : FO w w' v F := own_fr h hf hP
theorem FO.kp {w wx w' : World} {v : Value} {F : List A4} (h : FO w wx v F) (hk : Kp wx w') : FO w w' v F := by
  refine ⟨h.1, ?_⟩
  rcases h.2 with h1 | ⟨g, cap, cur, rfl, hb, hg, h2⟩
  · exact Or.inl h1
  · exact Or.inr ⟨g, cap, cur, rfl, hb, hk.block hg (by unfold okT; decide), h2⟩
theorem FO.cells {w wx : World} {g cap n : Nat} {F : List A4} (h : FO w wx (.slice (some ⟨g, 0, none⟩) n cap) F) (i : Nat) (hi : i < F.length) : wx.cell? ⟨g, i * 4, none⟩ = some (.int .i64 (F.getD i a0).c) ∧ wx.cell? ⟨g, i * 4 + 1, none⟩ = some (.int .i64 (F.getD i a0).s) ∧ wx.cell? ⟨g, i * 4 + 2, none⟩ = some (.int .i64 (F.getD i a0).m) ∧ wx.cell? ⟨g, i * 4 + 3, none⟩ = some (.int .i64 (F.getD i a0).x) := by
  obtain ⟨h1, h2, h3, h4⟩ := fc_get F i hi
  have c1 := World.ownsRow.cells h (g := g) rfl _ _ h1
  have c2 := World.ownsRow.cells h (g := g) rfl _ _ h2
  have c3 := World.ownsRow.cells h (g := g) rfl _ _ h3
  have c4 := World.ownsRow.cells h (g := g) rfl _ _ h4
  rw [Addr.add_lit, Nat.zero_add] at c1 c2 c3 c4
  exact ⟨c1, c2, c3, c4⟩
theorem FO.at {w wx : World} {v : Value} {F : List A4} (h : FO w wx v F) (hne : F ≠ []) : ∃ g cap, v = .slice (some ⟨g, 0, none⟩) F.length cap ∧ (∀ o, wx.frozen? ⟨g, o, none⟩ = false) ∧ g < wx.heap.size := by
  rcases h.2 with ⟨_, h0⟩ | ⟨g, cap, cur, rfl, hb, hg, _⟩
  · exact absurd (List.eq_nil_of_length_eq_zero h0) hne
  · exact ⟨g, cap, rfl, fun o => by simp [World.frozen?, hg], lt_of_block hg⟩
def setA (w : World) (g o : Nat) (a : A4) : World := (((w.setCell ⟨g, o, none⟩ (.int .i64 a.c)).setCell ⟨g, o + 1, none⟩ (.int .i64 a.s)).setCell ⟨g, o + 2, none⟩ (.int .i64 a.m)).setCell ⟨g, o + 3, none⟩ (.int .i64 a.x)
theorem setA_fr (w : World) (g o : Nat) (a : A4) : Fr w (setA w g o a) (fun b => b = g) := ((((Fr.refl w (fun b => b = g)).setCell (p := ⟨g, o, none⟩) (fun _ => rfl) _).setCell (p := ⟨g, o + 1, none⟩) (fun _ => rfl) _).setCell (p := ⟨g, o + 2, none⟩) (fun _ => rfl) _).setCell (p := ⟨g, o + 3, none⟩) (fun _ => rfl) _
theorem FO.set {w wx : World} {g cap : Nat} {F : List A4} (h : FO w wx (.slice (some ⟨g, 0, none⟩) F.length cap) F) (i : Nat) (hi : i < F.length) (a : A4) : FO w (setA wx g (i * 4) a) (.slice (some ⟨g, 0, none⟩) F.length cap) (F.set i a) := by
  rcases h.2 with ⟨h0, _⟩ | ⟨g', cap', cur, e, hb, hg, hn, hm, hs, ht⟩
  · simp at h0
  · simp only [Value.slice.injEq, Option.some.injEq, Addr.mk.injEq, and_true, true_and] at e
    obtain ⟨rfl, rfl⟩ := e
    have h1 := heap_setCell_same wx g (i * 4) cur _ (.int .i64 a.c) hg
    have h2 := heap_setCell_same _ g (i * 4 + 1) _ _ (.int .i64 a.s) h1
    have h3 := heap_setCell_same _ g (i * 4 + 2) _ _ (.int .i64 a.m) h2
    have h4 := heap_setCell_same _ g (i * 4 + 3) _ _ (.int .i64 a.x) h3
    refine ⟨by rw [fc_length, List.length_set], Or.inr ⟨g, cap, _, by rw [List.length_set], hb, h4, by rw [List.length_set]; exact hn, hm, by simpa using hs, ?_⟩⟩
    rw [fc_set F i a hi, ← ht, List.length_set]
    simp only [Array.toList_setIfInBounds, List.take_set]
theorem Tryd.info_agg : (Tryd.prog.info? 34).map (fun i => (i.zero, i.size, i.bytes)) = some (some (.agg #[.int .i64 0, .int .i64 0, .int .i64 0, .int .i64 0]), 4, 32) := by kernel_rfl
/-- append of a nought. -/
theorem wpl_fo {w W : World} {ops : Array Oper} {rest : List Oper} {o : Oper} {a : Act} {Q : Exit → Act → World → Prop} (hgd : o.guard = none) (sl x : Operand)
    (ho : o.op = .call { callee := .builtin .append, args := #[sl, x], argTypes := #[31, 31] }) (v : Value) (F : List A4) (hs : a.eval sl = v) (N c : Nat) (hx : a.eval x = .slice (some ⟨N, 0, none⟩) 1 c) (hn : F.length ≤ 1000) (hb : FO w W v F) (hW : w.heap.size ≤ W.heap.size) (hy : W.heap[N]? = some (.cells #[.int .i64 0, .int .i64 0, .int .i64 0, .int .i64 0] 34 (0, 0)))
    (h : ∀ v' w', FO w w' v' (F ++ [a0]) → Fr W w' (fun k => v.ownBlock = some k) → (v'.ownBlock = v.ownBlock ∨ v'.ownBlock = some W.heap.size) → wpList Tryd.prog ops Q rest (a.put o.dst v') w') : wpList Tryd.prog ops Q (o :: rest) a W := by
  obtain ⟨i0, hi, hz0, hz1, hz2⟩ := info_parts Tryd.info_agg
  have hc := cells4 hy
  refine wpList_append_own_at W hgd sl x 31 ho w.heap.size 34 i0 _ 4 32 Tryd.underlying31 hi hz0 hz1 hz2 rfl (by decide) v F.length (fc F) hs hb ⟨N, 0, none⟩ 1 c (fc [a0]) hx rfl ?_ (fun u hu => by simp [fc] at hu; rcases hu with rfl | rfl | rfl | rfl <;> rfl) (by unfold maxLen; omega) (by omega) hW ?_
  · intro j u hj
    rw [Addr.add_lit, Nat.zero_add]
    match j, hj with
    | 0, hj => simp [fc] at hj; subst hj; exact hc.1
    | 1, hj => simp [fc] at hj; subst hj; exact hc.2.1
    | 2, hj => simp [fc] at hj; subst hj; exact hc.2.2.1
    | 3, hj => simp [fc] at hj; subst hj; exact hc.2.2.2
  · intro v' w' hown hgr _ hat
    refine h v' w' ?_ ((Fr.refl W _).grown hgr (fun k _ e => e)) hat
    unfold FO
    rw [fc_append, List.length_append]
    exact hown

/-- Numbers that can be read at a slice. -/
def Is (w : World) (v : Value) (xs : List Int) : Prop :=
  ∃ ao cap, v = .slice ao xs.length cap ∧ xs.length ≤ 140737488355328 ∧ (∀ x ∈ xs, fits x) ∧ (xs ≠ [] → ∃ (b off : Nat), ao = some ⟨b, off, none⟩ ∧ ∀ i, i < xs.length → w.cell? ⟨b, off + i, none⟩ = some (.int .i64 (xs.getD i 0)))
/-- A number's thousandth. -/
theorem thou (x : Int) (h : fits x) : -9223372036854775 ≤ x.tdiv 1000 ∧ x.tdiv 1000 ≤ 9223372036854775 := by
  unfold fits at h
  have h1 := Int.tmod_add_mul_tdiv x 1000
  have h2 : -1000 < x.tmod 1000 := Int.lt_tmod_of_pos x (by decide)
  have h3 : x.tmod 1000 < 1000 := Int.tmod_lt_of_pos x (by decide)
  by_cases h0 : 0 ≤ x
  · have h4 := Int.tmod_nonneg 1000 h0
    omega
  · have h5 := Int.neg_tmod x 1000
    have h4 := Int.tmod_nonneg 1000 (show 0 ≤ -x by omega)
    omega
end Go.Proofs.YtcjadgnefojjgabDoor.S
