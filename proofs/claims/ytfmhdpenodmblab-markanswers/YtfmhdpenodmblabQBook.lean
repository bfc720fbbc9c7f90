/- Many answers in hand: a book of them in memory. -/
import Derived.Test.YtfmhdpenodmblabQSame
import Derived.ArgAppend
namespace Go.Proofs.Ytfmhdpenodmblab
open Go.RowKit

/-- An answer: where its cells lie, and which they are. -/
structure An where
  ad : Option Addr
  L : List Ce
def an0 : An := ⟨none, []⟩
def An.val (a : An) : Value := .slice a.ad a.L.length a.L.length
def AnAt (W : World) (a : An) : Prop := (a.ad = none ∧ a.L = []) ∨ ∃ g rest, a.ad = some ⟨g, 0, none⟩ ∧ RowC W g a.L rest
theorem AnAt.fr {W W' : World} {S : Nat → Prop} {a : An} (h : AnAt W a) (hf : Fr W W' S) (hS : ∀ g, a.ad = some ⟨g, 0, none⟩ → ¬ S g) : AnAt W' a := by
  rcases h with h | ⟨g, rest, hg, hr⟩
  · exact Or.inl h
  · exact Or.inr ⟨g, rest, hg, hr.fr hf (hS g hg)⟩
theorem Co.an {w w' : World} {u : Value} {L : List Ce} (h : Co w w' u L) : ∃ a : An, u = a.val ∧ a.L = L ∧ AnAt w' a ∧ ∀ g, a.ad = some ⟨g, 0, none⟩ → w.heap.size ≤ g ∧ g < w'.heap.size := by
  rcases h with ⟨rfl, rfl⟩ | ⟨g, rest, rfl, hb, hr⟩
  · exact ⟨⟨none, []⟩, rfl, rfl, Or.inl ⟨rfl, rfl⟩, fun g h => by simp at h⟩
  · refine ⟨⟨some ⟨g, 0, none⟩, L⟩, rfl, rfl, Or.inr ⟨g, rest, rfl, hr⟩, fun g' h => ?_⟩
    simp at h
    subst h
    exact ⟨hb, hr.lt⟩
theorem AnAt.lt {W : World} {a : An} (h : AnAt W a) {g : Nat} (hg : a.ad = some ⟨g, 0, none⟩) : g < W.heap.size := by
  rcases h with ⟨h, _⟩ | ⟨g', rest, hg', hr⟩
  · rw [hg] at h; cases h
  · rw [hg] at hg'
    simp at hg'
    subst hg'
    exact hr.lt
theorem AnAt.kind {W : World} {a : An} (h : AnAt W a) {g : Nat} (hg : a.ad = some ⟨g, 0, none⟩) : ∃ cs, W.heap[g]? = some (.cells cs 37 (0, 0)) := by
  rcases h with ⟨h, _⟩ | ⟨g', rest, hg', hr⟩
  · rw [hg] at h; cases h
  · rw [hg] at hg'
    simp at hg'
    subst hg'
    exact ⟨_, hr⟩
theorem AnAt.cells {W : World} {a : An} (h : AnAt W a) : ∀ b, a.ad = some b → ∀ j u, (cv a.L)[j]? = some u → W.cell? (b.add j) = some u := by
  intro b hb j u hj
  rcases h with ⟨h, _⟩ | ⟨g', rest, hg', hr⟩
  · rw [hb] at h; cases h
  · rw [hb] at hg'
    simp at hg'
    subst hg'
    rw [Addr.add_lit, Nat.zero_add, cell_of_row W g' j _ _ (0, 0) hr]
    have hl : j < (cv a.L).length := by
      rcases Nat.lt_or_ge j (cv a.L).length with h | h
      · exact h
      · rw [List.getElem?_eq_none h] at hj; cases hj
    simp only [List.getElem?_toArray]
    rw [List.getElem?_append_left hl]
    exact hj
theorem AnAt.get {W : World} {a : An} (h : AnAt W a) {i : Nat} (hi : i < a.L.length) : ∃ g, a.ad = some ⟨g, 0, none⟩ ∧ (W.cell? ⟨g, i * 3, none⟩ = some (.int .i64 ((a.L.getD i ce0).v : Int)) ∧ W.cell? ⟨g, i * 3 + 1, none⟩ = some (.string ⟨#[]⟩) ∧ W.cell? ⟨g, i * 3 + 2, none⟩ = some (.int .i64 (a.L.getD i ce0).s)) ∧ g < W.heap.size ∧ ∀ o, W.frozen? ⟨g, o, none⟩ = false := by
  rcases h with ⟨_, h⟩ | ⟨g, rest, hg, hr⟩
  · rw [h] at hi; simp at hi
  · exact ⟨g, hg, hr.get hi, hr.lt, hr.free⟩
theorem AnAt.cr {W : World} {a : An} (h : AnAt W a) (hl : a.L.length ≤ 1000000) : Cr W a.val a.L := by
  rcases h with ⟨h1, h2⟩ | ⟨g, rest, hg, hr⟩
  · exact ⟨a.ad, a.L.length, rfl, hl, fun hne => absurd h2 hne⟩
  · exact ⟨a.ad, a.L.length, rfl, hl, fun _ => ⟨g, rest, hg, hr⟩⟩

/-- A book of answers at a slice: each lies apart. -/
structure Bk (w : World) (v : Value) (as' : List An) (W : World) : Prop where
  own : W.ownsRow w.heap.size 29 1 v as'.length (as'.map An.val)
  each : ∀ k, k < as'.length → AnAt W (as'.getD k an0)
  apart : ∀ j k g, j < as'.length → k < as'.length → (as'.getD j an0).ad = some ⟨g, 0, none⟩ → (as'.getD k an0).ad = some ⟨g, 0, none⟩ → j = k
  new : ∀ k g, k < as'.length → (as'.getD k an0).ad = some ⟨g, 0, none⟩ → w.heap.size ≤ g
  len : ∀ k, k < as'.length → (as'.getD k an0).L.length ≤ 256
  fr : Fr w W (fun _ => False)
theorem Bk.nil (w : World) {W : World} (hf : Fr w W (fun _ => False)) : Bk w (.slice none 0 0) [] W :=
  ⟨⟨rfl, Or.inl ⟨rfl, rfl⟩⟩, fun k hk => by simp at hk, fun j k g hj => by simp at hj, fun k g hk => by simp at hk, fun k hk => by simp at hk, hf⟩
theorem Bk.step {w : World} {v : Value} {l : List An} {W W' : World} (p : Bk w v l W) (hf : Fr W W' (fun _ => False)) : Bk w v l W' :=
  ⟨own_fr p.own hf (fun _ _ h => h), fun k hk => (p.each k hk).fr hf (fun _ _ h => h), p.apart, p.new, p.len, p.fr.trans hf⟩
/-- What turns blocks of another kind leaves the book alone. -/
theorem Bk.other {w : World} {v : Value} {l : List An} {W W' : World} {S : Nat → Prop} (p : Bk w v l W) (hf : Fr W W' S) (hS : ∀ k, S k → w.heap.size ≤ k ∧ ∃ t cs, W.heap[k]? = some (.cells cs t (0, 0)) ∧ t ≠ 29 ∧ t ≠ 37) : Bk w v l W' := by
  refine ⟨own_fr p.own hf (fun k hk hs => ?_), fun k hk => (p.each k hk).fr hf (fun g hg hs => ?_), p.apart, p.new, p.len, p.fr.trans2 hf (fun i hi hs => by have := (hS i hs).1; omega)⟩
  · obtain ⟨_, t, cs, hb, h1, _⟩ := hS k hs
    exact own_ne p.own hb h1 hk
  · obtain ⟨_, t, cs, hb, _, h2⟩ := hS g hs
    obtain ⟨cs', hb'⟩ := (p.each k hk).kind hg
    rw [hb] at hb'
    simp at hb'
    exact h2 hb'.2
theorem Bk.at {w : World} {v : Value} {l : List An} {W : World} (p : Bk w v l W) {k : Nat} (hk : k < l.length) : ∃ gs cap, v = .slice (some ⟨gs, 0, none⟩) l.length cap ∧ W.cell? ⟨gs, k, none⟩ = some (l.getD k an0).val ∧ gs < W.heap.size := by
  rcases p.own.2 with ⟨_, h0⟩ | ⟨gs, cap, cur, hv, _⟩
  · omega
  · refine ⟨gs, cap, hv, ?_, own_lt p.own (by rw [hv]; rfl)⟩
    have ho := p.own
    rw [hv] at ho
    rw [ho.cellAt k (by omega)]
    simp [List.getD, hk]
theorem getD_snoc2 {l : List An} {a b : An} {k : Nat} (hk : k < (l ++ [a, b]).length) : (k < l.length ∧ (l ++ [a, b]).getD k an0 = l.getD k an0) ∨ (k = l.length ∧ (l ++ [a, b]).getD k an0 = a) ∨ (k = l.length + 1 ∧ (l ++ [a, b]).getD k an0 = b) := by
  rcases Nat.lt_or_ge k l.length with h | h
  · exact Or.inl ⟨h, by simp [List.getD, List.getElem?_append_left h]⟩
  · have : k = l.length ∨ k = l.length + 1 := by rw [List.length_append] at hk; simp at hk; omega
    rcases this with rfl | rfl
    · exact Or.inr (Or.inl ⟨rfl, by simp [List.getD]⟩)
    · exact Or.inr (Or.inr ⟨rfl, by simp [List.getD]⟩)
/-- Two answers more. -/
theorem Bk.grow2 {w : World} {v v' : Value} {l : List An} {a b : An} {W w1 : World} (p : Bk w v l W) (ha : AnAt W a) (hb : AnAt W b) (hna : ∀ g, a.ad = some ⟨g, 0, none⟩ → w.heap.size ≤ g ∧ (∀ k, k < l.length → (l.getD k an0).ad ≠ some ⟨g, 0, none⟩)) (hnb : ∀ g, b.ad = some ⟨g, 0, none⟩ → w.heap.size ≤ g ∧ (∀ k, k < l.length → (l.getD k an0).ad ≠ some ⟨g, 0, none⟩) ∧ a.ad ≠ some ⟨g, 0, none⟩)
    (hla : a.L.length ≤ 256) (hlb : b.L.length ≤ 256) (hown : w1.ownsRow w.heap.size 29 1 v' (l.length + 2) (l.map An.val ++ [a.val, b.val])) (hg : W.grownBy w1 v.ownBlock) : Bk w v' (l ++ [a, b]) w1 := by
  have hf : Fr W w1 (fun b => v.ownBlock = some b) := (Fr.refl W _).grown hg (fun k _ e => e)
  have hk : ∀ {x : An}, AnAt W x → AnAt w1 x := fun hx => hx.fr hf (fun g hg e => by
    obtain ⟨cs, hc⟩ := hx.kind hg
    exact own_ne p.own hc (by decide) e)
  refine ⟨by rw [List.length_append, List.map_append]; exact hown, fun k h => ?_, fun j k g hj hk' h1 h2 => ?_, fun k g h h1 => ?_, fun k h => ?_, p.fr.trans2 hf (fun i hi e => by have := p.own.lt i e; omega)⟩
  · rcases getD_snoc2 h with ⟨h', e⟩ | ⟨_, e⟩ | ⟨_, e⟩ <;> rw [e]
    · exact hk (p.each k h')
    · exact hk ha
    · exact hk hb
  · rcases getD_snoc2 hj with ⟨hj', e⟩ | ⟨hj', e⟩ | ⟨hj', e⟩ <;> rcases getD_snoc2 hk' with ⟨hk'', e2⟩ | ⟨hk'', e2⟩ | ⟨hk'', e2⟩ <;> rw [e] at h1 <;> rw [e2] at h2
    · exact p.apart j k g hj' hk'' h1 h2
    · exact absurd h1 ((hna g h2).2 j hj')
    · exact absurd h1 ((hnb g h2).2.1 j hj')
    · exact absurd h2 ((hna g h1).2 k hk'')
    · omega
    · exact absurd h1 (hnb g h2).2.2
    · exact absurd h2 ((hnb g h1).2.1 k hk'')
    · exact absurd h2 (hnb g h1).2.2
    · omega
  · rcases getD_snoc2 h with ⟨h', e⟩ | ⟨_, e⟩ | ⟨_, e⟩ <;> rw [e] at h1
    · exact p.new k g h' h1
    · exact (hna g h1).1
    · exact (hnb g h1).1
  · rcases getD_snoc2 h with ⟨h', e⟩ | ⟨_, e⟩ | ⟨_, e⟩ <;> rw [e]
    · exact p.len k h'
    · exact hla
    · exact hlb
theorem getD_set {l : List An} {i k : Nat} {a : An} (hk : k < l.length) : (l.set i a).getD k an0 = if i = k then a else l.getD k an0 := by
  simp only [List.getD, List.getElem?_set]
  by_cases h : i = k
  · subst h
    simp [hk]
  · simp [h]
theorem fr3 (W : World) (g a b c : Nat) (x y z : Value) : Fr W (((W.setCell ⟨g, a, none⟩ x).setCell ⟨g, b, none⟩ y).setCell ⟨g, c, none⟩ z) (fun b => b = g) :=
  Fr.setCell (S := fun b => b = g) (p := ⟨g, c, none⟩) (Fr.setCell (S := fun b => b = g) (p := ⟨g, b, none⟩) (Fr.setCell (S := fun b => b = g) (p := ⟨g, a, none⟩) (Fr.refl W _) (fun _ => rfl) x) (fun _ => rfl) y) (fun _ => rfl) z
/-- A cell of an answer is written over. -/
theorem Bk.write {w : World} {v : Value} {l : List An} {W : World} (p : Bk w v l W) {i k g : Nat} (hi : i < l.length) (hk : k < (l.getD i an0).L.length) (hg : (l.getD i an0).ad = some ⟨g, 0, none⟩) (c : Ce) :
    Bk w v (l.set i ⟨(l.getD i an0).ad, (l.getD i an0).L.set k c⟩) (((W.setCell ⟨g, k * 3, none⟩ (.int .i64 (c.v : Int))).setCell ⟨g, k * 3 + 1, none⟩ (.string ⟨#[]⟩)).setCell ⟨g, k * 3 + 2, none⟩ (.int .i64 c.s)) := by
  have hf : Fr W (((W.setCell ⟨g, k * 3, none⟩ (.int .i64 (c.v : Int))).setCell ⟨g, k * 3 + 1, none⟩ (.string ⟨#[]⟩)).setCell ⟨g, k * 3 + 2, none⟩ (.int .i64 c.s)) (fun b => b = g) := fr3 W g _ _ _ _ _ _
  have hle : (l.set i ⟨(l.getD i an0).ad, (l.getD i an0).L.set k c⟩).length = l.length := by simp
  have hmap : (l.set i ⟨(l.getD i an0).ad, (l.getD i an0).L.set k c⟩).map An.val = l.map An.val := by
    apply List.ext_getElem?
    intro j
    rw [List.getElem?_map, List.getElem?_map, List.getElem?_set]
    by_cases h : i = j
    · subst h
      simp [hi, An.val]
    · simp [h]
  have hrow : ∃ rest, RowC W g (l.getD i an0).L rest := by
    rcases p.each i hi with ⟨h, _⟩ | ⟨g', rest, hg', hr⟩
    · rw [hg] at h; cases h
    · rw [hg] at hg'
      simp at hg'
      subst hg'
      exact ⟨rest, hr⟩
  obtain ⟨rest, hr⟩ := hrow
  have hkind : W.heap[g]? = some (.cells (cv (l.getD i an0).L ++ rest).toArray 37 (0, 0)) := hr
  refine ⟨?_, fun j hj => ?_, fun j q g' hj hq h1 h2 => ?_, fun j g' hj h1 => ?_, fun j hj => ?_, p.fr.trans2 hf (fun b hb e => by have := p.new i g hi hg; omega)⟩
  · rw [hle, hmap]
    exact own_fr p.own hf (fun b hb e => own_ne p.own hkind (by decide) (by rw [← e]; exact hb))
  · rw [hle] at hj
    rw [getD_set hj]
    by_cases h : i = j
    · rw [if_pos h]
      exact Or.inr ⟨g, rest, hg, hr.set hk c⟩
    · rw [if_neg h]
      exact (p.each j hj).fr hf (fun g' hg' e => h (p.apart i j g hi hj hg (by rw [hg', e])))
  · rw [hle] at hj hq
    rw [getD_set hj] at h1
    rw [getD_set hq] at h2
    refine p.apart j q g' hj hq ?_ ?_
    · by_cases h : i = j
      · rw [if_pos h] at h1; rw [← h]; exact h1
      · rw [if_neg h] at h1; exact h1
    · by_cases h : i = q
      · rw [if_pos h] at h2; rw [← h]; exact h2
      · rw [if_neg h] at h2; exact h2
  · rw [hle] at hj
    rw [getD_set hj] at h1
    refine p.new j g' hj ?_
    by_cases h : i = j
    · rw [if_pos h] at h1; rw [← h]; exact h1
    · rw [if_neg h] at h1; exact h1
  · rw [hle] at hj
    rw [getD_set hj]
    by_cases h : i = j
    · rw [if_pos h]
      simp only [List.length_set]
      exact p.len i hi
    · rw [if_neg h]
      exact p.len j hj
theorem Try.info_cells : (Try.prog.info? 29).map (fun i => (i.zero, i.size, i.bytes)) = some (some (.slice none 0 0), 1, 24) := by kernel_rfl
end Go.Proofs.Ytfmhdpenodmblab
