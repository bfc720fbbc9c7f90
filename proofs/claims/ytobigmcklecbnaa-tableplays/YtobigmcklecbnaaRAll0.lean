/- The document's All: what its walk stands on. -/
import Derived.Test.YtobigmcklecbnaaRLike
import Derived.Test.YtobigmcklecbnaaTAll
namespace Go.Proofs.Ytobigmcklecbnaa
open Go.RowKit

/-- The taken places. -/
def takL (r : List Pl) : List Pl := r.filter (fun p => p.st == 1)
theorem takL_take (r : List Pl) (i : Nat) (hi : i < r.length) : takL (r.take (i + 1)) = takL (r.take i) ++ (if (at' r i).st = 1 then [at' r i] else []) := by
  rw [List.take_add_one, List.getElem?_eq_getElem hi]
  unfold takL
  rw [at_get hi]
  simp only [Option.toList_some, List.filter_append]
  congr 1
  by_cases h : r[i].st = 1
  · simp [h]
  · simp [h]
theorem takL_len (r : List Pl) : (takL r).length ≤ r.length := List.length_filter_le ..
theorem takL_mem {r : List Pl} (hV : Vok r) {p : Pl} (h : p ∈ takL r) : p.st = 1 ∧ okP p := by
  unfold takL at h
  rw [List.mem_filter] at h
  obtain ⟨i, hi, rfl⟩ := List.mem_iff_getElem.1 h.1
  have := hV i hi
  rw [at_get hi] at this
  exact ⟨by simpa using h.2, this⟩
theorem four_new (w : World) (a b c d : Value) (e : TypeId) : ∀ (j : Nat) (u : Value), [a, b, c, d][j]? = some u → (w.alloc (.cells #[a, b, c, d] e)).cell? ((⟨w.heap.size, 0, none⟩ : Addr).add j) = some u := by
  intro j u hj
  match j, hj with
  | 0, hj => simp at hj; subst hj; simp [Addr.add]
  | 1, hj => simp at hj; subst hj; simp [Addr.add]
  | 2, hj => simp at hj; subst hj; simp [Addr.add]
  | 3, hj => simp at hj; subst hj; simp [Addr.add]
theorem one_new (w : World) (a : Value) (e : TypeId) : ∀ (j : Nat) (u : Value), [a][j]? = some u → (w.alloc (.cells #[a] e)).cell? ((⟨w.heap.size, 0, none⟩ : Addr).add j) = some u := by
  intro j u hj
  match j, hj with
  | 0, hj => simp at hj; subst hj; simp [Addr.add]

/-- A cell of an owned row of one cell each: read, not frozen, written. -/
theorem ownv_cell {w : World} {base : Nat} {e : TypeId} {g cap n : Nat} {xs : List Value} (h : w.ownsRow base e 1 (.slice (some ⟨g, 0, none⟩) n cap) n xs) (j : Nat) (u : Value) (hj : xs[j]? = some u) : w.cell? ⟨g, j, none⟩ = some u ∧ w.frozen? ⟨g, j, none⟩ = false := by
  have h0 := h
  rcases h.2 with ⟨h1, _⟩ | ⟨g', cap', cur, e1, _, hh, _⟩
  · simp at h1
  · simp only [Value.slice.injEq, Option.some.injEq, Addr.mk.injEq, and_true, true_and] at e1
    obtain ⟨rfl, rfl⟩ := e1
    have := h0.cells (g := g) rfl j u hj
    rw [Addr.add_lit, Nat.zero_add] at this
    exact ⟨this, by simp [World.frozen?, hh]⟩
theorem ownv_set {w : World} {base : Nat} {e : TypeId} {g cap n : Nat} {xs : List Value} (h : w.ownsRow base e 1 (.slice (some ⟨g, 0, none⟩) n cap) n xs) (j : Nat) (u : Value) : (w.setCell ⟨g, j, none⟩ u).ownsRow base e 1 (.slice (some ⟨g, 0, none⟩) n cap) n (xs.set j u) := by
  rcases h.2 with ⟨h1, _⟩ | ⟨g', cap', cur, e1, hb, hh, hn, hm, hs, ht⟩
  · simp at h1
  · simp only [Value.slice.injEq, Option.some.injEq, Addr.mk.injEq, and_true, true_and] at e1
    obtain ⟨rfl, rfl⟩ := e1
    have h1 := heap_setCell_same w g j cur e u hh
    refine ⟨by rw [List.length_set]; exact h.1, Or.inr ⟨g, cap, _, rfl, hb, h1, hn, hm, by simpa using hs, ?_⟩⟩
    rw [Array.toList_setIfInBounds, List.take_set, ht]
/-- The places of an owned row of places. -/
theorem ownp_cell {w : World} {base g cap : Nat} {L : List Pl} (h : w.ownsRow base 115 4 (.slice (some ⟨g, 0, none⟩) L.length cap) L.length (pd L)) (i : Nat) (hi : i < L.length) : w.cell? ⟨g, i * 4 + 2, none⟩ = some (.string (at' L i).key) ∧ w.cell? ⟨g, i * 4 + 3, none⟩ = some (at' L i).val := by
  obtain ⟨_, _, h2, h3⟩ := pd_get L i hi
  have a2 := h.cells (g := g) rfl _ _ h2
  have a3 := h.cells (g := g) rfl _ _ h3
  rw [Addr.add_lit, Nat.zero_add] at a2 a3
  exact ⟨a2, a3⟩
theorem own_some {w : World} {base : Nat} {e : TypeId} {size : Nat} {v : Value} {n : Nat} {xs : List Value} (h : w.ownsRow base e size v n xs) (hn : n ≠ 0) : ∃ g cap, v = .slice (some ⟨g, 0, none⟩) n cap ∧ base ≤ g ∧ g < w.heap.size := by
  rcases h.2 with ⟨_, h0⟩ | ⟨g, cap, cur, rfl, hb, hh, _⟩
  · exact absurd h0 hn
  · exact ⟨g, cap, rfl, hb, lt_of_block hh⟩
/-- Two owned rows of other types lie apart. -/
theorem own_apart {w : World} {base b2 : Nat} {e e2 : TypeId} {s s2 : Nat} {v v2 : Value} {n n2 : Nat} {xs ys : List Value} (h : w.ownsRow base e s v n xs) (h2 : w.ownsRow b2 e2 s2 v2 n2 ys) (hne : e2 ≠ e) : ∀ k, v2.ownBlock = some k → v.ownBlock ≠ some k := by
  intro k hk
  rcases h2.2 with ⟨rfl, _⟩ | ⟨g, cap, cur, rfl, _, hh, _⟩
  · simp [Value.ownBlock] at hk
  · simp [Value.ownBlock] at hk
    subst hk
    exact own_ne h hh hne

/-- Keys and values of a list of entries. -/
def kvs (L : List En) : List Value := L.map (fun e => .string e.1)
def vvs (L : List En) : List Value := L.map (fun e => .int .i64 e.2)
theorem kvs_length (L : List En) : (kvs L).length = L.length := List.length_map ..
theorem vvs_length (L : List En) : (vvs L).length = L.length := List.length_map ..
/-- Is a key behind another? -/
def gtK (a b : ByteArray) : Bool := !(Op.bytesLess a.toList b.toList || a.toList == b.toList)
/-- Where an entry goes: down from n. -/
def posF (L : List En) (k : ByteArray) : Nat → Nat
  | 0 => 0
  | n + 1 => if gtK (L.getD n ez).1 k then posF L k n else n + 1
theorem posF_le (L : List En) (k : ByteArray) : ∀ n, posF L k n ≤ n
  | 0 => Nat.le_refl _
  | n + 1 => by
    unfold posF
    split
    · exact Nat.le_succ_of_le (posF_le L k n)
    · exact Nat.le_refl _
def insL (L : List En) (e : En) : List En := L.take (posF L e.1 L.length) ++ e :: L.drop (posF L e.1 L.length)
theorem insL_length (L : List En) (e : En) : (insL L e).length = L.length + 1 := by
  unfold insL
  have := posF_le L e.1 L.length
  simp
  omega
theorem mid_set {α : Type} (K : List α) (q : Nat) (u x : α) (hq : q ≤ K.length) : (K.take q ++ u :: K.drop q).set q x = K.take q ++ x :: K.drop q := by
  rw [List.set_append_right _ _ (by simp; omega)]
  simp [Nat.min_eq_left hq]
theorem mid_get {α : Type} (K : List α) (q : Nat) (u : α) (hq : q < K.length) : (K.take (q + 1) ++ u :: K.drop (q + 1))[q]? = some K[q] := by
  rw [List.getElem?_append_left (by simp; omega), List.getElem?_take]
  simp [hq]
theorem mid_down {α : Type} (K : List α) (q : Nat) (hq : q < K.length) : K.take (q + 1) ++ K[q] :: K.drop (q + 1) = K.take q ++ K[q] :: K.drop q := by
  have h1 : K.drop q = K[q] :: K.drop (q + 1) := List.drop_eq_getElem_cons hq
  have h2 : K.take (q + 1) = K.take q ++ [K[q]] := by rw [List.take_add_one, List.getElem?_eq_getElem hq]; rfl
  rw [h2, List.append_assoc, h1]
  rfl
theorem kvs_ins (L : List En) (e : En) : kvs (insL L e) = (kvs L).take (posF L e.1 L.length) ++ .string e.1 :: (kvs L).drop (posF L e.1 L.length) := by
  unfold insL kvs
  simp [List.map_take, List.map_drop]
theorem vvs_ins (L : List En) (e : En) : vvs (insL L e) = (vvs L).take (posF L e.1 L.length) ++ .int .i64 e.2 :: (vvs L).drop (posF L e.1 L.length) := by
  unfold insL vvs
  simp [List.map_take, List.map_drop]
/-- The entries of places. -/
def enP (l : List Pl) : List En := l.map (fun p => (p.key, xOf p.val))
/-- Amid the document's All: places, keys, values. -/
structure SI (w wx : World) (lv kv vv : Value) (P : List Pl) (K V : List Value) : Prop where
  fr : Fr w wx (fun _ => False)
  lo : wx.ownsRow w.heap.size 115 4 lv P.length (pd P)
  ko : wx.ownsRow w.heap.size 9 1 kv K.length K
  vo : wx.ownsRow w.heap.size 3 1 vv V.length V
theorem SI.drewN {w wx : World} {lv kv vv : Value} {P : List Pl} {K V : List Value} (h : SI w wx lv kv vv P K V) (n : Nat) : SI w (wx.drewN n) lv kv vv P K V :=
  ⟨h.fr.drewN n, own_fr h.lo ((Fr.refl wx (fun _ => False)).drewN n) (fun _ _ h => h), own_fr h.ko ((Fr.refl wx (fun _ => False)).drewN n) (fun _ _ h => h), own_fr h.vo ((Fr.refl wx (fun _ => False)).drewN n) (fun _ _ h => h)⟩
theorem SI.drew {w wx : World} {lv kv vv : Value} {P : List Pl} {K V : List Value} (h : SI w wx lv kv vv P K V) : SI w wx.drew lv kv vv P K V :=
  ⟨h.fr.drew, own_fr h.lo ((Fr.refl wx (fun _ => False)).drew) (fun _ _ h => h), own_fr h.ko ((Fr.refl wx (fun _ => False)).drew) (fun _ _ h => h), own_fr h.vo ((Fr.refl wx (fun _ => False)).drew) (fun _ _ h => h)⟩
theorem SI.growK {w wx a wy : World} {lv kv kv' vv : Value} {P : List Pl} {K V K' : List Value} (h : SI w wx lv kv vv P K V) (ha : Fr wx a (fun _ => False)) (hg : a.grownBy wy kv.ownBlock) (ho : wy.ownsRow w.heap.size 9 1 kv' K'.length K') : SI w wy lv kv' vv P K' V := by
  have hf : Fr wx wy (fun k => kv.ownBlock = some k) := (ha.mono (fun _ _ h => h.elim)).grown hg (fun k _ e => e)
  refine ⟨h.fr.trans2 hf (fun b hb e => ?_), own_fr h.lo hf (own_apart h.ko h.lo (by decide)), ho, own_fr h.vo hf (own_apart h.ko h.vo (by decide))⟩
  have := (h.ko.lt b e).1
  omega
theorem SI.growV {w wx a wy : World} {lv kv vv vv' : Value} {P : List Pl} {K V V' : List Value} (h : SI w wx lv kv vv P K V) (ha : Fr wx a (fun _ => False)) (hg : a.grownBy wy vv.ownBlock) (ho : wy.ownsRow w.heap.size 3 1 vv' V'.length V') : SI w wy lv kv vv' P K V' := by
  have hf : Fr wx wy (fun k => vv.ownBlock = some k) := (ha.mono (fun _ _ h => h.elim)).grown hg (fun k _ e => e)
  refine ⟨h.fr.trans2 hf (fun b hb e => ?_), own_fr h.lo hf (own_apart h.vo h.lo (by decide)), own_fr h.ko hf (own_apart h.vo h.ko (by decide)), ho⟩
  have := (h.vo.lt b e).1
  omega
theorem SI.setK {w wx : World} {lv vv : Value} {g cap n : Nat} {P : List Pl} {K V : List Value} (h : SI w wx lv (.slice (some ⟨g, 0, none⟩) n cap) vv P K V) (hn : K.length = n) (j : Nat) (u : Value) : SI w (wx.setCell ⟨g, j, none⟩ u) lv (.slice (some ⟨g, 0, none⟩) n cap) vv P (K.set j u) V := by
  subst hn
  have hf : Fr wx (wx.setCell ⟨g, j, none⟩ u) (fun k => (Value.slice (some ⟨g, 0, none⟩) K.length cap).ownBlock = some k) := Fr.setCell (S := fun k => (Value.slice (some ⟨g, 0, none⟩) K.length cap).ownBlock = some k) (Fr.refl wx _) (p := ⟨g, j, none⟩) (fun _ => rfl) u
  refine ⟨h.fr.trans2 hf (fun b hb e => ?_), own_fr h.lo hf (own_apart h.ko h.lo (by decide)), by rw [List.length_set]; exact ownv_set h.ko j u, own_fr h.vo hf (own_apart h.ko h.vo (by decide))⟩
  have := (h.ko.lt b e).1
  omega
theorem SI.setV {w wx : World} {lv kv : Value} {g cap n : Nat} {P : List Pl} {K V : List Value} (h : SI w wx lv kv (.slice (some ⟨g, 0, none⟩) n cap) P K V) (hn : V.length = n) (j : Nat) (u : Value) : SI w (wx.setCell ⟨g, j, none⟩ u) lv kv (.slice (some ⟨g, 0, none⟩) n cap) P K (V.set j u) := by
  subst hn
  have hf : Fr wx (wx.setCell ⟨g, j, none⟩ u) (fun k => (Value.slice (some ⟨g, 0, none⟩) V.length cap).ownBlock = some k) := Fr.setCell (S := fun k => (Value.slice (some ⟨g, 0, none⟩) V.length cap).ownBlock = some k) (Fr.refl wx _) (p := ⟨g, j, none⟩) (fun _ => rfl) u
  refine ⟨h.fr.trans2 hf (fun b hb e => ?_), own_fr h.lo hf (own_apart h.vo h.lo (by decide)), own_fr h.ko hf (own_apart h.vo h.ko (by decide)), by rw [List.length_set]; exact ownv_set h.vo j u⟩
  have := (h.vo.lt b e).1
  omega
def sortL (l : List En) : List En := l.foldl insL []
end Go.Proofs.Ytobigmcklecbnaa
