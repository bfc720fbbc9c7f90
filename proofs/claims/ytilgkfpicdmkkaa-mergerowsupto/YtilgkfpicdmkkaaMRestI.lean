import Derived.Test.YtilgkfpicdmkkaaMCmp
import Derived.BigRegion
import Derived.Deep.RegionLaw
/- merge: a heap of rests in memory: Len, Swap: walks (lists of int). -/
namespace Go.Proofs.Ytilgkfpicdmkkaa.M.I
open Go.RowKit

abbrev Rt := R Int
section
variable (S : Rt → Value)
/-- Rests as values; S: the slice of what is left. -/
def vc : List Rt → List Value
  | [] => []
  | x :: L => .int .i64 (x.p : Int) :: S x :: vc L
theorem vc_append (a b : List Rt) : vc S (a ++ b) = vc S a ++ vc S b := by
  induction a with
  | nil => rfl
  | cons x a ih => simp [vc, ih]
theorem vc_length (L : List Rt) : (vc S L).length = L.length * 2 := by
  induction L with
  | nil => rfl
  | cons x L ih => simp only [vc, List.length_cons, ih]; omega
theorem vc_get : ∀ (L : List Rt) (i : Nat), i < L.length → (vc S L)[i * 2]? = some (.int .i64 ((at' L i).p : Int)) ∧ (vc S L)[i * 2 + 1]? = some (S (at' L i))
  | [], i, h => by simp at h
  | x :: L, 0, _ => ⟨rfl, rfl⟩
  | x :: L, i + 1, h => by
    have := vc_get L i (by simpa using h)
    rw [show (i + 1) * 2 = i * 2 + 2 by omega]
    simpa [vc, at'] using this
theorem vc_set : ∀ (L : List Rt) (i : Nat) (x : Rt), i < L.length → vc S (L.set i x) = ((vc S L).set (i * 2) (.int .i64 (x.p : Int))).set (i * 2 + 1) (S x)
  | [], i, x, h => by simp at h
  | y :: L, 0, x, _ => rfl
  | y :: L, i + 1, x, h => by
    have := vc_set L i x (by simpa using h)
    rw [show (i + 1) * 2 = i * 2 + 2 by omega]
    simp [vc, this]
theorem vc_take (L : List Rt) (k : Nat) : vc S (L.take k) = (vc S L).take (k * 2) := by
  induction L generalizing k with
  | nil => simp [vc]
  | cons x L ih =>
    cases k with
    | zero => simp [vc]
    | succ k =>
      rw [show (k + 1) * 2 = k * 2 + 2 by omega]
      simp [vc, ih]

/-- A block that holds rests, and more behind them. -/
def RowR (w : World) (g : Nat) (L : List Rt) (rest : List Value) : Prop := w.heap[g]? = some (.cells (vc S L ++ rest).toArray 95 (0, 0))
end
variable {S : Rt → Value}
theorem RowR.lt {w : World} {g : Nat} {L : List Rt} {rest : List Value} (h : RowR S w g L rest) : g < w.heap.size := lt_of_block h
theorem RowR.fr {w w' : World} {T : Nat → Prop} {g : Nat} {L : List Rt} {rest : List Value} (h : RowR S w g L rest) (hf : Fr w w' T) (hS : ¬ T g) : RowR S w' g L rest := by
  unfold RowR
  rw [hf.block g h.lt hS]
  exact h
theorem RowR.free {w : World} {g : Nat} {L : List Rt} {rest : List Value} (h : RowR S w g L rest) (o : Nat) : w.frozen? ⟨g, o, none⟩ = false := by
  have h' : w.heap[g]? = some (.cells (vc S L ++ rest).toArray 95 (0, 0)) := h
  simp [World.frozen?, h']
theorem RowR.cells {w : World} {g : Nat} {L : List Rt} {rest : List Value} (h : RowR S w g L rest) (i : Nat) (hi : i < L.length) : w.cell? ⟨g, i * 2, none⟩ = some (.int .i64 ((at' L i).p : Int)) ∧ w.cell? ⟨g, i * 2 + 1, none⟩ = some (S (at' L i)) := by
  obtain ⟨h1, h2⟩ := vc_get S L i hi
  have hl := vc_length S L
  refine ⟨?_, ?_⟩
  · rw [cell_of_row w g _ _ _ (0, 0) h]
    simp [List.getElem?_append_left (show i * 2 < (vc S L).length by omega), h1]
  · rw [cell_of_row w g _ _ _ (0, 0) h]
    simp [List.getElem?_append_left (show i * 2 + 1 < (vc S L).length by omega), h2]
/-- The world behind a rest's store. -/
def set2 (S : Rt → Value) (w : World) (g o : Nat) (x : Rt) : World := (w.setCell ⟨g, o, none⟩ (.int .i64 (x.p : Int))).setCell ⟨g, o + 1, none⟩ (S x)
theorem RowR.set {w : World} {g : Nat} {L : List Rt} {rest : List Value} (h : RowR S w g L rest) (i : Nat) (hi : i < L.length) (x : Rt) : RowR S (set2 S w g (i * 2) x) g (L.set i x) rest := by
  have h1 := heap_setCell_same w g (i * 2) _ _ (.int .i64 (x.p : Int)) h
  have h2 := heap_setCell_same _ g (i * 2 + 1) _ _ (S x) h1
  unfold RowR set2
  rw [h2, vc_set S L i x hi]
  have hl := vc_length S L
  refine congrArg (fun a => Option.some (Obj.cells a 95 (0, 0))) (Array.ext' ?_)
  simp only [Array.toList_setIfInBounds]
  rw [List.set_append_left _ _ (by omega), List.set_append_left _ _ (by simp; omega)]
theorem rowR_own {w : World} {base g cap : Nat} {L : List Rt} {rest : List Value} (h : RowR S w g L rest) (hb : base ≤ g) (hcap : L.length * 2 + rest.length = cap * 2) (hm : cap ≤ 9223372036854775807) (k : Nat) (hk : k ≤ L.length) : w.ownsRow base 95 2 (.slice (.some ⟨g, 0, none⟩) k cap) k (vc S (L.take k)) := by
  have hl := vc_length S L
  refine ⟨by rw [vc_length, List.length_take]; congr 1; omega, Or.inr ⟨g, cap, (vc S L ++ rest).toArray, rfl, hb, h, by omega, by unfold maxLen; omega, by simp; omega, ?_⟩⟩
  rw [List.toList_toArray, List.take_append_of_le_length (by omega), vc_take]
theorem own_rowR {w : World} {base : Nat} {v : Value} {L : List Rt} (h : w.ownsRow base 95 2 v L.length (vc S L)) (hL : 0 < L.length) : ∃ g cap rest, v = .slice (some ⟨g, 0, none⟩) L.length cap ∧ RowR S w g L rest ∧ L.length * 2 + rest.length = cap * 2 ∧ base ≤ g ∧ cap ≤ 9223372036854775807 := by
  rcases h.2 with ⟨_, h'⟩ | ⟨g, cap, cur, rfl, hb, hg, hn, hm, hcs, htake⟩
  · omega
  · refine ⟨g, cap, cur.toList.drop (L.length * 2), rfl, ?_, ?_, hb, by unfold maxLen at hm; omega⟩
    · unfold RowR
      rw [hg]
      congr 2
      apply Array.ext'
      rw [List.toList_toArray, ← htake, List.take_append_drop]
    · simp
      omega

/-- Blocks of other kinds stay. -/
def Kps (wk W : World) : Prop := ∀ (k : Nat) (cs : Array Value) (e : TypeId) (z : Nat × Nat), wk.heap[k]? = some (Obj.cells cs e z) → e ≠ 95 → e ≠ 93 → W.heap[k]? = some (Obj.cells cs e z)
theorem Kps.refl (w : World) : Kps w w := fun _ _ _ _ h _ _ => h
theorem Kps.trans {a b c : World} (h : Kps a b) (g : Kps b c) : Kps a c := fun k cs e z h1 h2 h3 => g k cs e z (h k cs e z h1 h2 h3) h2 h3
theorem Kps.fr {a b c : World} (h : Kps a b) (hf : Fr b c (fun _ => False)) : Kps a c := fun k cs e z h1 h2 h3 => by
  have := h k cs e z h1 h2 h3
  rw [hf.block k (lt_of_block this) (fun h => h)]
  exact this
/-- A heap of rests at a block, all of it made behind a world. -/
structure Rs (S : Rt → Value) (f : Value) (w0 wk W : World) (B : Nat) (v : Value) (hs : List Rt) : Prop where
  cell : W.heap[B]? = some (.cells #[f, v] 93 (0, 0))
  own : W.ownsRow w0.heap.size 95 2 v hs.length (vc S hs)
  fr : Fr w0 W (fun _ => False)
  hB : w0.heap.size ≤ B
  len : hs.length ≤ 1000000
  kp : Kps wk W
theorem Rs.lt {f : Value} {w0 wk W : World} {B : Nat} {v : Value} {hs : List Rt} (h : Rs S f w0 wk W B v hs) : B < W.heap.size := lt_of_block h.cell
theorem Rs.ne {f : Value} {w0 wk W : World} {B : Nat} {v : Value} {hs : List Rt} (h : Rs S f w0 wk W B v hs) : v.ownBlock ≠ some B := own_ne h.own h.cell (by decide)
theorem Rs.step {f : Value} {w0 wk W W' : World} {B : Nat} {v : Value} {hs : List Rt} (h : Rs S f w0 wk W B v hs) (hf : Fr W W' (fun _ => False)) : Rs S f w0 wk W' B v hs :=
  ⟨by rw [hf.block B h.lt (fun h => h)]; exact h.cell, own_fr h.own hf (fun _ _ h => h), h.fr.trans hf, h.hB, h.len, h.kp.fr hf⟩

theorem Rs.kpT {f : Value} {w0 wk w w' : World} {B : Nat} {v : Value} {hs : List Rt} (h : Rs S f w0 wk w B v hs) (hf : Fr w w' (fun k => k = B ∨ v.ownBlock = some k)) : Kps wk w' := fun k cs e z h1 h2 h3 => by
  have hk := h.kp k cs e z h1 h2 h3
  rw [hf.block k (lt_of_block hk) ?_]
  · exact hk
  · rintro (e1 | e1)
    · rw [e1, h.cell] at hk
      simp only [Option.some.injEq, Obj.cells.injEq] at hk
      exact h3 hk.2.1.symm
    · rcases h.own.2 with ⟨e2, _⟩ | ⟨g, cap, cur, e2, _, hg, _⟩
      · rw [e2] at e1
        simp [Value.ownBlock] at e1
      · rw [e2] at e1
        simp only [Value.ownBlock, Option.some.injEq] at e1
        rw [e1] at hg
        rw [hg] at hk
        simp only [Option.some.injEq, Obj.cells.injEq] at hk
        exact h2 hk.2.1.symm
theorem free2 {w : World} {N : Nat} {cs : Array Value} {e : TypeId} (h : w.heap[N]? = some (.cells cs e (0, 0))) (o : Nat) : w.frozen? ⟨N, o, none⟩ = false := by simp [World.frozen?, h]
theorem len_any {f : Value} {w0 wk : World} {B : Nat} {v : Value} {hs : List Rt} (w : World) (h : Rs S f w0 wk w B v hs) :
    Calls Try.prog 32 #[.pointer (some ⟨B, 0, none⟩)] w fun e w' => e = .returned (.int .i64 (hs.length : Int)) ∧ w' = w := by
  obtain ⟨ao, cap, rfl⟩ := own_nil_shape h.own
  obtain ⟨_, c1⟩ := cells2 h.cell
  have hlt := h.lt
  clear h
  go_enter Try.func32, Try.ntmps32
  go_wp2_with fail
  go_ret
  exact ⟨rfl, rfl⟩

theorem set2_fr (w : World) (g o : Nat) (x : Rt) {a : World} {T : Nat → Prop} (h : Fr a w T) (hg : g < a.heap.size → T g) : Fr a (set2 S w g o x) T :=
  (h.setCell (p := ⟨g, o, none⟩) hg _).setCell (p := ⟨g, o + 1, none⟩) hg _
theorem Rs.put {f : Value} {w0 wk w : World} {B g cap : Nat} {hs : List Rt} (h : Rs S f w0 wk w B (.slice (some ⟨g, 0, none⟩) hs.length cap) hs) (i : Nat) (hi : i < hs.length) (x : Rt) : Rs S f w0 wk (set2 S w g (i * 2) x) B (.slice (some ⟨g, 0, none⟩) hs.length cap) (hs.set i x) := by
  obtain ⟨g', cap', rest, e, hrow, hcap, hg, hm⟩ := own_rowR h.own (by omega)
  simp only [Value.slice.injEq, Option.some.injEq, Addr.mk.injEq, and_true, true_and] at e
  obtain ⟨rfl, rfl⟩ := e
  have hne : B ≠ g := fun e => h.ne (by rw [e]; rfl)
  have hr := hrow.set i hi x
  have ho := rowR_own (base := w0.heap.size) (cap := cap) hr hg (by rw [List.length_set]; exact hcap) hm hs.length (by simp)
  rw [List.take_of_length_le (by simp)] at ho
  refine ⟨?_, by rw [List.length_set]; exact ho, set2_fr w g (i * 2) x h.fr (fun hh => by omega), h.hB, by rw [List.length_set]; exact h.len, h.kpT (set2_fr w g (i * 2) x (Fr.refl w _) (fun _ => Or.inr rfl))⟩
  rw [(set2_fr w g (i * 2) x (Fr.refl w (fun k => k = g)) (fun _ => rfl)).block B h.lt hne]
  exact h.cell
theorem Rs.swap {f : Value} {w0 wk w : World} {B g cap : Nat} {hs : List Rt} (h : Rs S f w0 wk w B (.slice (some ⟨g, 0, none⟩) hs.length cap) hs) (i j : Nat) (hi : i < hs.length) (hj : j < hs.length) : Rs S f w0 wk (set2 S (set2 S w g (i * 2) (at' hs j)) g (j * 2) (at' hs i)).drew B (.slice (some ⟨g, 0, none⟩) hs.length cap) (swap hs i j) := by
  have h1 := h.put i hi (at' hs j)
  rw [← List.length_set (i := i) (a := at' hs j)] at h1
  have h2 := h1.put j (by simp; exact hj) (at' hs i)
  rw [List.length_set] at h2
  exact h2.step ((Fr.refl _ _).drew)

set_option maxHeartbeats 1000000 in
set_option maxRecDepth 100000 in
theorem swap_any {f : Value} {w0 wk : World} {B : Nat} {v : Value} {hs : List Rt} (i j : Nat) (hi : i < hs.length) (hj : j < hs.length) (hS : ∀ r, ∃ a n c, S r = .slice a n c) (w : World) (h : Rs S f w0 wk w B v hs) :
    Calls Try.prog 80 #[.pointer (some ⟨B, 0, none⟩), .int .i64 (i : Int), .int .i64 (j : Int)] w fun e w' => e = .returned (.tuple #[]) ∧ Rs S f w0 wk w' B v (swap hs i j) := by
  have HR := hid h
  have hlen := h.len
  have hne := h.ne
  obtain ⟨g, cap, rest, rfl, hrow, hcap, hg, hm⟩ := own_rowR h.own (by omega)
  obtain ⟨_, c1⟩ := cells2 h.cell
  obtain ⟨i0, i1⟩ := hrow.cells i hi
  obtain ⟨j0, j1⟩ := hrow.cells j hj
  have fi0 := hrow.free (i * 2)
  have fi1 := hrow.free (i * 2 + 1)
  have fj0 := hrow.free (j * 2)
  have fj1 := hrow.free (j * 2 + 1)
  have hlt := h.lt
  have hlg := hrow.lt
  have HW := hid hrow
  have hgB : g ≠ B := fun e => hne (by rw [e]; rfl)
  clear h hrow hne
  have t1 : (i : Int) < (hs.length : Int) := by omega
  have t2 : (j : Int) < (hs.length : Int) := by omega
  obtain ⟨ai, ni, ci, hsi⟩ := hS (at' hs i)
  obtain ⟨aj, nj, cj, hsj⟩ := hS (at' hs j)
  rw [hsi] at i1
  rw [hsj] at j1
  by_cases hij : i = j
  · subst hij
    have HSI := hid hsi
    clear hsj j0 j1 fj0 fj1 t2
    go_enter Try.func80, Try.ntmps80
    go_region
    go_end0
    have := HR.out.swap i i hi hi
    unfold set2 at this
    rw [HSI.out] at this
    exact ⟨rfl, this⟩
  · have n1 : i * 2 ≠ j * 2 := by omega
    have n2 : j * 2 ≠ i * 2 := by omega
    have n3 : ¬ j = i := fun e => hij e.symm
    have HSI := hid hsi
    have HSJ := hid hsj
    go_enter Try.func80, Try.ntmps80
    go_region
    go_end0
    have := HR.out.swap i j hi hj
    unfold set2 at this
    rw [HSI.out, HSJ.out] at this
    exact ⟨rfl, this⟩

end Go.Proofs.Ytilgkfpicdmkkaa.M.I
