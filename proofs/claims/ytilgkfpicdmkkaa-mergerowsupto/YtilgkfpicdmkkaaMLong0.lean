import Derived.Test.YtilgkfpicdmkkaaMLongP
import Derived.Test.YtilgkfpicdmkkaaMKnown
import Derived.Maps.AppendAt
import Derived.Deep.DeepMust
/- MergeLong: a walk. -/
namespace Go.Proofs.Ytilgkfpicdmkkaa.M
open Go.RowKit


/-- Blocks of kinds other than some stay. -/
def KpC (ts : List TypeId) (W W' : World) : Prop := W.heap.size ≤ W'.heap.size ∧ ∀ (k : Nat) (cs : Array Value) (t : TypeId), W.heap[k]? = some (Obj.cells cs t (0, 0)) → t ∉ ts → W'.heap[k]? = some (Obj.cells cs t (0, 0))
theorem KpC.refl (ts : List TypeId) (W : World) : KpC ts W W := ⟨Nat.le_refl _, fun _ _ _ h _ => h⟩
theorem KpC.trans {ts : List TypeId} {a b c : World} (h : KpC ts a b) (k : KpC ts b c) : KpC ts a c := ⟨Nat.le_trans h.1 k.1, fun i cs t hi ht => k.2 i cs t (h.2 i cs t hi ht) ht⟩
theorem KpC.of {ts : List TypeId} {W W' : World} (hf : Fr W W' (fun _ => False)) : KpC ts W W' := ⟨hf.size, fun k _ _ hk _ => (hf.block k (lt_of_block hk) (fun h => h)).trans hk⟩
/-- An append to a row of one's own. -/
theorem KpC.grown {W W' : World} {base : Nat} {t : TypeId} {size : Nat} {v : Value} {n : Nat} {xs : List Value} (ho : W.ownsRow base t size v n xs) (hg : W.grownBy W' v.ownBlock) : KpC [t] W W' := ⟨hg.size, fun k cs t' hk ht => by
  rw [hg.block k (lt_of_block hk) (fun e => own_ne ho hk (by simpa using ht) e.symm)]
  exact hk⟩
theorem own_kpc {ts : List TypeId} {W W' : World} {base : Nat} {t : TypeId} {size : Nat} {v : Value} {n : Nat} {xs : List Value} (h : W.ownsRow base t size v n xs) (hk : KpC ts W W') (ht : t ∉ ts) : W'.ownsRow base t size v n xs := by
  refine ⟨h.1, ?_⟩
  rcases h.2 with h2 | ⟨g, cap, cur, hv, hb, hg2, rest⟩
  · exact Or.inl h2
  · exact Or.inr ⟨g, cap, cur, hv, hb, hk.2 g cur t hg2 ht, rest⟩
/-- Slices of rows in a row of one's own, each with what it holds. -/
structure SpR (w W : World) (v : Value) (us : List Value) (ls : List (List Rw)) : Prop where
  own : W.ownsRow w.heap.size 22 1 v us.length us
  len : us.length = ls.length
  each : ∀ p (hp : p < us.length) (hq : p < ls.length), W.ownsRow w.heap.size 54 7 us[p] ls[p].length (rc ls[p])
  fr : Fr w W (fun _ => False)
theorem SpR.step {w W W' : World} {v : Value} {us : List Value} {ls : List (List Rw)} (h : SpR w W v us ls) (hf : Fr W W' (fun _ => False)) : SpR w W' v us ls :=
  ⟨own_fr h.own hf (fun _ _ h => h), h.len, fun p hp hq => own_fr (h.each p hp hq) hf (fun _ _ h => h), h.fr.trans hf⟩
theorem SpR.nil (w W : World) (hf : Fr w W (fun _ => False)) : SpR w W (.slice none 0 0) [] [] := ⟨⟨rfl, Or.inl ⟨rfl, rfl⟩⟩, rfl, fun p hp => by simp at hp, hf⟩
theorem SpR.snoc {w W W2 : World} {v v' u : Value} {us : List Value} {ls : List (List Rw)} {l : List Rw} (h : SpR w W v us ls) (hu : W.ownsRow w.heap.size 54 7 u l.length (rc l))
    (hown : W2.ownsRow w.heap.size 22 1 v' (us.length + 1) (us ++ [u])) (hg : W.grownBy W2 v.ownBlock) : SpR w W2 v' (us ++ [u]) (ls ++ [l]) := by
  have hk : ∀ {x : Value} {n : Nat} {xs : List Value}, W.ownsRow w.heap.size 54 7 x n xs → W2.ownsRow w.heap.size 54 7 x n xs := fun {x n xs} hx => by
    refine ⟨hx.1, ?_⟩
    rcases hx.2 with h2 | ⟨g, cap, cur, hv, hb, hg2, rest⟩
    · exact Or.inl h2
    · exact Or.inr ⟨g, cap, cur, hv, hb, (hg.block g (lt_of_block hg2) (fun e => own_ne h.own hg2 (by decide) e.symm)).trans hg2, rest⟩
  refine ⟨by rw [List.length_append]; exact hown, by simp [h.len], fun p hp hq => ?_, h.fr.grown hg (fun k hk e => by have := (h.own.lt k e).1; omega)⟩
  by_cases hlt : p < us.length
  · rw [List.getElem_append_left hlt, List.getElem_append_left (by rw [← h.len]; exact hlt)]
    exact hk (h.each p hlt (by rw [← h.len]; exact hlt))
  · have e1 : p = us.length := by simp at hp; omega
    have e2 : p = ls.length := by rw [e1, h.len]
    have a1 : (us ++ [u])[p] = u := by subst e1; simp
    have a2 : (ls ++ [l])[p] = l := by subst e2; simp
    rw [a1, a2]
    exact hk hu
/-- Where a slice lies. -/
def svR : Value → M.W.Sv
  | .slice (some a) _ c => ⟨a.block, 0, c⟩
  | _ => ⟨0, 0, 0⟩
theorem SpR.at {w W : World} {v : Value} {us : List Value} {ls : List (List Rw)} (h : SpR w W v us ls) (hl : ls.length ≤ 900000) : ∃ sv, M.W.LsAt W sv ls v := by
  obtain ⟨ao, cap, hv⟩ := own_nil_shape h.own
  refine ⟨fun p => svR (us.getD p (.slice none 0 0)), ao, cap, by rw [← h.len]; exact hv, by omega, fun p => ?_, fun hpos => ?_⟩
  · by_cases hp : p < us.length
    · have hq : p < ls.length := by rw [← h.len]; exact hp
      have he := h.each p hp hq
      have e1 : us.getD p (.slice none 0 0) = us[p] := by simp [List.getD, hp]
      have e2 : M.W.gl ls p = ls[p] := by simp [M.W.gl, hq]
      simp only [e1, e2]
      rcases he.2 with ⟨e3, e4⟩ | ⟨g, c, cur, e3, hb, hg, hn, hm, _⟩
      · rw [e3]
        unfold svR
        dsimp only
        exact ⟨by omega, by omega, fun j hj => by omega⟩
      · rw [e3]
        unfold svR
        dsimp only
        unfold maxLen at hm
        refine ⟨hn, by omega, fun j hj => ?_⟩
        have hc : ∀ i, i < 7 → W.cell? ⟨g, j * 7 + i, none⟩ = some (cellR (ls[p][j]?.getD default) i) := fun i hi => by
          have := he.cells (g := g) (by rw [e3]; rfl) _ _ (rc_get ls[p] j i hj hi)
          rw [Addr.add_lit, Nat.zero_add] at this
          exact this
        rw [show 0 + 7 * j = j * 7 by omega]
        exact ⟨hc 0 (by omega), hc 1 (by omega), hc 2 (by omega), hc 3 (by omega), hc 4 (by omega), hc 5 (by omega), hc 6 (by omega)⟩
    · have e1 : us.getD p (.slice none 0 0) = .slice none 0 0 := by simp [List.getD, hp]
      have e2 : M.W.gl ls p = [] := by
        have : ¬ p < ls.length := by rw [← h.len]; exact hp
        simp [M.W.gl, this]
      simp only [e1, e2]
      unfold svR
      dsimp only
      exact ⟨by simp, by omega, fun j hj => by simp at hj⟩
  · rcases h.own.2 with ⟨_, h'⟩ | ⟨G, c0, cur, e3, hb, hg, _⟩
    · have := h.len; omega
    · rw [hv] at e3
      simp only [Value.slice.injEq] at e3
      obtain ⟨e4, _, _⟩ := e3
      refine ⟨G, 0, e4, fun p hp => ?_⟩
      have hpu : p < us.length := by rw [h.len]; exact hp
      have he := h.each p hpu hp
      have hc := h.own.cells (g := G) (by rw [hv, e4]; rfl) p us[p] (by simp [hpu])
      rw [Addr.add_lit, Nat.zero_add] at hc
      rw [Nat.zero_add]
      have e1 : us.getD p (.slice none 0 0) = us[p] := by simp [List.getD, hpu]
      have e2 : M.W.gl ls p = ls[p] := by simp [M.W.gl, hp]
      obtain ⟨a, c, e5⟩ := own_nil_shape he
      rw [e2]
      refine ⟨a, c, by rw [hc, e5], fun hne => ?_⟩
      unfold M.W.slv
      simp only [e1, e2]
      rcases he.2 with ⟨_, e4⟩ | ⟨g, c', cur, e6, _⟩
      · exact absurd (List.eq_nil_of_length_eq_zero e4) hne
      · rw [e6] at e5
        simp only [Value.slice.injEq] at e5
        obtain ⟨e7, _, e8⟩ := e5
        rw [e6, ← e7, ← e8]
        simp [svR]

/-- Slices of numbers in a row of one's own, each with what it holds. -/
structure SpJ (w W : World) (v : Value) (us : List Value) (ls : List (List Int)) : Prop where
  own : W.ownsRow w.heap.size 36 1 v us.length us
  len : us.length = ls.length
  each : ∀ p (hp : p < us.length) (hq : p < ls.length), W.ownsRow w.heap.size 3 1 us[p] ls[p].length (I.iv ls[p])
  fr : Fr w W (fun _ => False)
theorem SpJ.step {w W W' : World} {v : Value} {us : List Value} {ls : List (List Int)} (h : SpJ w W v us ls) (hf : Fr W W' (fun _ => False)) : SpJ w W' v us ls :=
  ⟨own_fr h.own hf (fun _ _ h => h), h.len, fun p hp hq => own_fr (h.each p hp hq) hf (fun _ _ h => h), h.fr.trans hf⟩
theorem SpJ.nil (w W : World) (hf : Fr w W (fun _ => False)) : SpJ w W (.slice none 0 0) [] [] := ⟨⟨rfl, Or.inl ⟨rfl, rfl⟩⟩, rfl, fun p hp => by simp at hp, hf⟩
theorem SpJ.snoc {w W W2 : World} {v v' u : Value} {us : List Value} {ls : List (List Int)} {l : List Int} (h : SpJ w W v us ls) (hu : W.ownsRow w.heap.size 3 1 u l.length (I.iv l))
    (hown : W2.ownsRow w.heap.size 36 1 v' (us.length + 1) (us ++ [u])) (hg : W.grownBy W2 v.ownBlock) : SpJ w W2 v' (us ++ [u]) (ls ++ [l]) := by
  have hk : ∀ {x : Value} {n : Nat} {xs : List Value}, W.ownsRow w.heap.size 3 1 x n xs → W2.ownsRow w.heap.size 3 1 x n xs := fun {x n xs} hx => by
    refine ⟨hx.1, ?_⟩
    rcases hx.2 with h2 | ⟨g, cap, cur, hv, hb, hg2, rest⟩
    · exact Or.inl h2
    · exact Or.inr ⟨g, cap, cur, hv, hb, (hg.block g (lt_of_block hg2) (fun e => own_ne h.own hg2 (by decide) e.symm)).trans hg2, rest⟩
  refine ⟨by rw [List.length_append]; exact hown, by simp [h.len], fun p hp hq => ?_, h.fr.grown hg (fun k hk e => by have := (h.own.lt k e).1; omega)⟩
  by_cases hlt : p < us.length
  · rw [List.getElem_append_left hlt, List.getElem_append_left (by rw [← h.len]; exact hlt)]
    exact hk (h.each p hlt (by rw [← h.len]; exact hlt))
  · have e1 : p = us.length := by simp at hp; omega
    have e2 : p = ls.length := by rw [e1, h.len]
    have a1 : (us ++ [u])[p] = u := by subst e1; simp
    have a2 : (ls ++ [l])[p] = l := by subst e2; simp
    rw [a1, a2]
    exact hk hu
/-- Where a slice lies. -/
def svJ : Value → I.Sv
  | .slice (some a) _ c => ⟨a.block, 0, c⟩
  | _ => ⟨0, 0, 0⟩
theorem SpJ.at {w W : World} {v : Value} {us : List Value} {ls : List (List Int)} (h : SpJ w W v us ls) (hl : ls.length ≤ 900000) : ∃ sv, I.LsAt W sv ls v := by
  obtain ⟨ao, cap, hv⟩ := own_nil_shape h.own
  refine ⟨fun p => svJ (us.getD p (.slice none 0 0)), ao, cap, by rw [← h.len]; exact hv, by omega, fun p => ?_, fun hpos => ?_⟩
  · by_cases hp : p < us.length
    · have hq : p < ls.length := by rw [← h.len]; exact hp
      have he := h.each p hp hq
      have e1 : us.getD p (.slice none 0 0) = us[p] := by simp [List.getD, hp]
      have e2 : I.gl ls p = ls[p] := by simp [I.gl, hq]
      simp only [e1, e2]
      rcases he.2 with ⟨e3, e4⟩ | ⟨g, c, cur, e3, hb, hg, hn, hm, _⟩
      · rw [e3]
        unfold svJ
        dsimp only
        exact ⟨by omega, by omega, fun j hj => by omega⟩
      · rw [e3]
        unfold svJ
        dsimp only
        unfold maxLen at hm
        refine ⟨hn, by omega, fun j hj => ?_⟩
        have hc := he.cells (g := g) (by rw [e3]; rfl) j (.int .i64 (ls[p][j]?.getD default)) (by simp [I.iv, hj])
        rw [Addr.add_lit, Nat.zero_add] at hc
        rw [show 0 + 1 * j = j by omega]
        exact hc
    · have e1 : us.getD p (.slice none 0 0) = .slice none 0 0 := by simp [List.getD, hp]
      have e2 : I.gl ls p = [] := by
        have : ¬ p < ls.length := by rw [← h.len]; exact hp
        simp [I.gl, this]
      simp only [e1, e2]
      unfold svJ
      dsimp only
      exact ⟨by simp, by omega, fun j hj => by simp at hj⟩
  · rcases h.own.2 with ⟨_, h'⟩ | ⟨G, c0, cur, e3, hb, hg, _⟩
    · have := h.len; omega
    · rw [hv] at e3
      simp only [Value.slice.injEq] at e3
      obtain ⟨e4, _, _⟩ := e3
      refine ⟨G, 0, e4, fun p hp => ?_⟩
      have hpu : p < us.length := by rw [h.len]; exact hp
      have he := h.each p hpu hp
      have hc := h.own.cells (g := G) (by rw [hv, e4]; rfl) p us[p] (by simp [hpu])
      rw [Addr.add_lit, Nat.zero_add] at hc
      rw [Nat.zero_add]
      have e1 : us.getD p (.slice none 0 0) = us[p] := by simp [List.getD, hpu]
      have e2 : I.gl ls p = ls[p] := by simp [I.gl, hp]
      obtain ⟨a, c, e5⟩ := own_nil_shape he
      rw [e2]
      refine ⟨a, c, by rw [hc, e5], fun hne => ?_⟩
      unfold I.slv
      simp only [e1, e2]
      rcases he.2 with ⟨_, e4⟩ | ⟨g, c', cur, e6, _⟩
      · exact absurd (List.eq_nil_of_length_eq_zero e4) hne
      · rw [e6] at e5
        simp only [Value.slice.injEq] at e5
        obtain ⟨e7, _, e8⟩ := e5
        rw [e6, ← e7, ← e8]
        simp [svJ]

theorem SpR.kpc {ts : List TypeId} {w W W' : World} {v : Value} {us : List Value} {ls : List (List Rw)} (h : SpR w W v us ls) (hk : KpC ts W W') (h1 : 22 ∉ ts) (h2 : 54 ∉ ts) (hf : Fr w W' (fun _ => False)) : SpR w W' v us ls :=
  ⟨own_kpc h.own hk h1, h.len, fun p hp hq => own_kpc (h.each p hp hq) hk h2, hf⟩
theorem SpJ.kpc {ts : List TypeId} {w W W' : World} {v : Value} {us : List Value} {ls : List (List Int)} (h : SpJ w W v us ls) (hk : KpC ts W W') (h1 : 36 ∉ ts) (h2 : 3 ∉ ts) (hf : Fr w W' (fun _ => False)) : SpJ w W' v us ls :=
  ⟨own_kpc h.own hk h1, h.len, fun p hp hq => own_kpc (h.each p hp hq) hk h2, hf⟩
theorem Try.info_rs : (Try.prog.info? 22).map (fun i => (i.zero, i.size, i.bytes)) = some (some (.slice none 0 0), 1, 24) := by kernel_rfl
theorem Try.info_is : (Try.prog.info? 36).map (fun i => (i.zero, i.size, i.bytes)) = some (some (.slice none 0 0), 1, 24) := by kernel_rfl
end Go.Proofs.Ytilgkfpicdmkkaa.M
