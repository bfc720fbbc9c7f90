/- Two books of answers, and what is grown of one: memory. -/
import Derived.Test.YtfmhdpenodmblabQBook
namespace Go.Proofs.Ytfmhdpenodmblab
open Go.RowKit

/-- A copy: where its cells lie, its room, which they are. -/
structure Wn where
  ad : Option Addr
  c : Nat
  L : List Ce
def wn0 : Wn := ⟨none, 0, []⟩
def Wn.val (a : Wn) : Value := .slice a.ad a.L.length a.c
def WnAt (W : World) (a : Wn) : Prop := (a.ad = none ∧ a.L = []) ∨ ∃ g rest, a.ad = some ⟨g, 0, none⟩ ∧ RowC W g a.L rest
theorem WnAt.fr {W W' : World} {S : Nat → Prop} {a : Wn} (h : WnAt W a) (hf : Fr W W' S) (hS : ∀ g, a.ad = some ⟨g, 0, none⟩ → ¬ S g) : WnAt W' a := by
  rcases h with h | ⟨g, rest, hg, hr⟩
  · exact Or.inl h
  · exact Or.inr ⟨g, rest, hg, hr.fr hf (hS g hg)⟩
theorem WnAt.kind {W : World} {a : Wn} (h : WnAt W a) {g : Nat} (hg : a.ad = some ⟨g, 0, none⟩) : ∃ cs, W.heap[g]? = some (.cells cs 37 (0, 0)) := by
  rcases h with ⟨h, _⟩ | ⟨g', rest, hg', hr⟩
  · rw [hg] at h; cases h
  · rw [hg] at hg'
    simp at hg'
    subst hg'
    exact ⟨_, hr⟩
theorem WnAt.lt {W : World} {a : Wn} (h : WnAt W a) {g : Nat} (hg : a.ad = some ⟨g, 0, none⟩) : g < W.heap.size := by
  obtain ⟨cs, hc⟩ := h.kind hg
  exact lt_of_block hc
theorem WnAt.cr {W : World} {a : Wn} (h : WnAt W a) (hl : a.L.length ≤ 1000000) : Cr W a.val a.L := by
  rcases h with ⟨h1, h2⟩ | ⟨g, rest, hg, hr⟩
  · exact ⟨a.ad, a.c, rfl, hl, fun hne => absurd h2 hne⟩
  · exact ⟨a.ad, a.c, rfl, hl, fun _ => ⟨g, rest, hg, hr⟩⟩
theorem WnAt.get {W : World} {a : Wn} (h : WnAt W a) {i : Nat} (hi : i < a.L.length) : ∃ g, a.ad = some ⟨g, 0, none⟩ ∧ (W.cell? ⟨g, i * 3, none⟩ = some (.int .i64 ((a.L.getD i ce0).v : Int)) ∧ W.cell? ⟨g, i * 3 + 1, none⟩ = some (.string ⟨#[]⟩) ∧ W.cell? ⟨g, i * 3 + 2, none⟩ = some (.int .i64 (a.L.getD i ce0).s)) ∧ g < W.heap.size := by
  rcases h with ⟨_, h⟩ | ⟨g, rest, hg, hr⟩
  · rw [h] at hi; simp at hi
  · exact ⟨g, hg, hr.get hi, hr.lt⟩
/-- A book of copies at a slice. -/
structure Wb (w : World) (v : Value) (l : List Wn) (W : World) : Prop where
  own : W.ownsRow w.heap.size 29 1 v l.length (l.map Wn.val)
  each : ∀ k, k < l.length → WnAt W (l.getD k wn0)
theorem Wb.nil (w W : World) : Wb w (.slice none 0 0) [] W := ⟨⟨rfl, Or.inl ⟨rfl, rfl⟩⟩, fun k hk => by simp at hk⟩
theorem Wb.keep {w : World} {v : Value} {l : List Wn} {W W' : World} {S : Nat → Prop} (p : Wb w v l W) (hf : Fr W W' S) (h1 : ∀ k, v.ownBlock = some k → ¬ S k) (h2 : ∀ k g, k < l.length → (l.getD k wn0).ad = some ⟨g, 0, none⟩ → ¬ S g) : Wb w v l W' :=
  ⟨own_fr p.own hf h1, fun k hk => (p.each k hk).fr hf (fun g hg => h2 k g hk hg)⟩
theorem Wb.step {w : World} {v : Value} {l : List Wn} {W W' : World} (p : Wb w v l W) (hf : Fr W W' (fun _ => False)) : Wb w v l W' := p.keep hf (fun _ _ h => h) (fun _ _ _ _ h => h)
theorem Wb.at {w : World} {v : Value} {l : List Wn} {W : World} (p : Wb w v l W) {k : Nat} (hk : k < l.length) : ∃ gs cap, v = .slice (some ⟨gs, 0, none⟩) l.length cap ∧ W.cell? ⟨gs, k, none⟩ = some (l.getD k wn0).val ∧ gs < W.heap.size := by
  rcases p.own.2 with ⟨_, h0⟩ | ⟨gs, cap, cur, hv, _⟩
  · omega
  · refine ⟨gs, cap, hv, ?_, own_lt p.own (by rw [hv]; rfl)⟩
    have ho := p.own
    rw [hv] at ho
    rw [ho.cellAt k (by omega)]
    simp [List.getD, hk]
theorem Bk.keep {w : World} {v : Value} {l : List An} {W W' : World} {S : Nat → Prop} (p : Bk w v l W) (hf : Fr W W' S) (h1 : ∀ k, v.ownBlock = some k → ¬ S k) (h2 : ∀ k g, k < l.length → (l.getD k an0).ad = some ⟨g, 0, none⟩ → ¬ S g) (h3 : ∀ k, S k → w.heap.size ≤ k) : Bk w v l W' :=
  ⟨own_fr p.own hf h1, fun k hk => (p.each k hk).fr hf (fun g hg => h2 k g hk hg), p.apart, p.new, p.len, p.fr.trans2 hf (fun i hi hs => by have := h3 i hs; omega)⟩

/-- What was grown of an answer: two cells behind it. -/
def MoE (W : World) (i n : Nat) (u : Value) (l : List An) : Prop :=
  ∃ g c M rest, u = .slice (some ⟨g, 0, none⟩) (n + 2) c ∧ RowC W g M rest ∧ M.length = n + 2 ∧ M.getD n ce0 = ⟨100 + i, -1⟩ ∧ M.getD (n + 1) ce0 = ⟨100 + i, -2⟩ ∧ ∀ j, j < l.length → (l.getD j an0).ad ≠ some ⟨g, 0, none⟩
theorem MoE.fr {W W' : World} {S : Nat → Prop} {i n : Nat} {u : Value} {l : List An} (h : MoE W i n u l) (hf : Fr W W' S) (hS : ∀ g cs, W.heap[g]? = some (.cells cs 37 (0, 0)) → (∀ j, j < l.length → (l.getD j an0).ad ≠ some ⟨g, 0, none⟩) → ¬ S g) : MoE W' i n u l := by
  obtain ⟨g, c, M, rest, h1, h2, h3, h4, h5, h6⟩ := h
  exact ⟨g, c, M, rest, h1, h2.fr hf (hS g _ h2 h6), h3, h4, h5, h6⟩
/-- The row of what was grown. -/
structure Mo (W : World) (gm N : Nat) (us : List Value) (l : List An) (cur : Nat) : Prop where
  row : W.heap[gm]? = some (.cells us.toArray 29 (0, 0))
  len : us.length = N
  each : ∀ i, i < cur → MoE W i (l.getD i an0).L.length (us.getD i (.slice none 0 0)) l
theorem Mo.fr {W W' : World} {S : Nat → Prop} {gm N : Nat} {us : List Value} {l : List An} {cur : Nat} (h : Mo W gm N us l cur) (hf : Fr W W' S) (h1 : ¬ S gm) (hS : ∀ g cs, W.heap[g]? = some (.cells cs 37 (0, 0)) → (∀ j, j < l.length → (l.getD j an0).ad ≠ some ⟨g, 0, none⟩) → ¬ S g) : Mo W' gm N us l cur :=
  ⟨by rw [hf.block gm (lt_of_block h.row) h1]; exact h.row, h.len, fun i hi => (h.each i hi).fr hf hS⟩
theorem Mo.cell {W : World} {gm N : Nat} {us : List Value} {l : List An} {cur : Nat} (h : Mo W gm N us l cur) {i : Nat} (hi : i < N) : W.cell? ⟨gm, i, none⟩ = some (us.getD i (.slice none 0 0)) := by
  have hl := h.len
  rw [cell_of_row W gm i _ _ (0, 0) h.row]
  simp [List.getD, show i < us.length by omega]

/-- What stands in apart: the answers, the copies, what was grown. -/
structure AP (w w0 : World) (vA vW : Value) (l0 l : List An) (ws : List Wn) (gm N : Nat) (us : List Value) (cur : Nat) (W : World) : Prop where
  bk : Bk w vA l W
  wb : Wb w vW ws W
  mo : Mo W gm N us l0 cur
  ll : l.length = N ∧ l0.length = N ∧ ws.length = N
  same : ∀ j, j < N → (l.getD j an0).ad = (l0.getD j an0).ad ∧ (l.getD j an0).L.length = (l0.getD j an0).L.length
  cross : ∀ j k g, j < N → k < N → (l0.getD j an0).ad = some ⟨g, 0, none⟩ → (ws.getD k wn0).ad ≠ some ⟨g, 0, none⟩
  ga : vA.ownBlock ≠ some gm
  gw : vW.ownBlock ≠ some gm
  gb : w0.heap.size ≤ gm ∧ w.heap.size ≤ w0.heap.size
  fr : Fr w0 W (fun k => ∃ j, j < N ∧ (l0.getD j an0).ad = some ⟨k, 0, none⟩)
theorem AP.step {w w0 : World} {vA vW : Value} {l0 l : List An} {ws : List Wn} {gm N : Nat} {us : List Value} {cur : Nat} {W W' : World} (p : AP w w0 vA vW l0 l ws gm N us cur W) (hf : Fr W W' (fun _ => False)) : AP w w0 vA vW l0 l ws gm N us cur W' :=
  ⟨p.bk.step hf, p.wb.step hf, p.mo.fr hf (fun h => h) (fun _ _ _ _ h => h), p.ll, p.same, p.cross, p.ga, p.gw, p.gb, p.fr.trans (hf.mono (fun _ _ h => h.elim))⟩
/-- One more is grown, and laid into the row. -/
theorem AP.more {w w0 : World} {vA vW : Value} {l0 : List An} {ws : List Wn} {gm N : Nat} {us : List Value} {cur : Nat} {W : World} (p : AP w w0 vA vW l0 l0 ws gm N us cur W) (hc : cur < N) {u : Value} (hu : MoE W cur (l0.getD cur an0).L.length u l0) : AP w w0 vA vW l0 l0 ws gm N (us.set cur u) (cur + 1) (W.setCell ⟨gm, cur, none⟩ u) := by
  have hf : Fr W (W.setCell ⟨gm, cur, none⟩ u) (fun b => b = gm) := Fr.setCell (S := fun b => b = gm) (p := ⟨gm, cur, none⟩) (Fr.refl W _) (fun _ => rfl) u
  have hg := p.mo.row
  have hl := p.mo.len
  have hne : ∀ g cs, W.heap[g]? = some (.cells cs 37 (0, 0)) → g ≠ gm := by
    rintro g cs h rfl
    rw [hg] at h
    simp at h
  refine ⟨p.bk.keep hf (fun k hk e => p.ga (by rw [← e]; exact hk)) (fun k g hk hgk e => ?_) (fun k e => by have := p.gb; omega), p.wb.keep hf (fun k hk e => p.gw (by rw [← e]; exact hk)) (fun k g hk hgk e => ?_), ⟨?_, by rw [List.length_set]; exact hl, fun i hi => ?_⟩, p.ll, p.same, p.cross, p.ga, p.gw, p.gb, p.fr.trans2 hf (fun i hi e => by have := p.gb; omega)⟩
  · obtain ⟨cs, hcs⟩ := (p.bk.each k hk).kind hgk
    exact hne g cs hcs e
  · obtain ⟨cs, hcs⟩ := (p.wb.each k hk).kind hgk
    exact hne g cs hcs e
  · rw [heap_setCell_same W gm cur _ _ _ hg]
    congr 2
    apply Array.ext'
    simp
  · rcases Nat.lt_or_ge i cur with h | h
    · have e : (us.set cur u).getD i (.slice none 0 0) = us.getD i (.slice none 0 0) := by simp [List.getD, show cur ≠ i by omega]
      rw [e]
      exact (p.mo.each i h).fr hf (fun g cs hcs _ => hne g cs hcs)
    · have e0 : i = cur := by omega
      subst e0
      have e : (us.set i u).getD i (.slice none 0 0) = u := by simp [List.getD, show i < us.length by omega]
      rw [e]
      exact hu.fr hf (fun g cs hcs _ => hne g cs hcs)
/-- A cell of an answer is written over. -/
theorem AP.write {w w0 : World} {vA vW : Value} {l0 l : List An} {ws : List Wn} {gm N : Nat} {us : List Value} {W : World} (p : AP w w0 vA vW l0 l ws gm N us N W) {i k g : Nat} (hi : i < N) (hk : k < (l.getD i an0).L.length) (hg : (l.getD i an0).ad = some ⟨g, 0, none⟩) (c : Ce) :
    AP w w0 vA vW l0 (l.set i ⟨(l.getD i an0).ad, (l.getD i an0).L.set k c⟩) ws gm N us N (((W.setCell ⟨g, k * 3, none⟩ (.int .i64 (c.v : Int))).setCell ⟨g, k * 3 + 1, none⟩ (.string ⟨#[]⟩)).setCell ⟨g, k * 3 + 2, none⟩ (.int .i64 c.s)) := by
  have hf := fr3 W g (k * 3) (k * 3 + 1) (k * 3 + 2) (.int .i64 (c.v : Int)) (.string ⟨#[]⟩) (.int .i64 c.s)
  have hil : i < l.length := by have := p.ll; omega
  obtain ⟨cs, hcs⟩ := (p.bk.each i hil).kind hg
  have hg0 : (l0.getD i an0).ad = some ⟨g, 0, none⟩ := by rw [← (p.same i hi).1]; exact hg
  refine ⟨p.bk.write hil hk hg c, p.wb.keep hf (fun b hb e => own_ne p.wb.own hcs (by decide) (by rw [← e]; exact hb)) (fun q g' hq hgq e => p.cross i q g hi (by have := p.ll; omega) hg0 (by rw [hgq, e])), p.mo.fr hf (fun e => ?_) (fun g' cs' _ hn e => hn i (by have := p.ll; omega) (by rw [e]; exact hg0)), ⟨by rw [List.length_set]; exact p.ll.1, p.ll.2⟩, fun j hj => ?_, p.cross, p.ga, p.gw, p.gb, p.fr.trans2 hf (fun b hb e => ⟨i, hi, by rw [e]; exact hg0⟩)⟩
  · have h := p.mo.row
    rw [e, hcs] at h
    simp at h
  · rw [getD_set (by have := p.ll; omega)]
    by_cases h : i = j
    · rw [if_pos h]
      subst h
      exact ⟨(p.same i hi).1, by simp only [List.length_set]; exact (p.same i hi).2⟩
    · rw [if_neg h]
      exact p.same j hj
end Go.Proofs.Ytfmhdpenodmblab
