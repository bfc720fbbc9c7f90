/- Rows of bytes that the call owns, many at a time, apart from one another; appending to one of them. -/
import Derived.Test.YtmadlmbpgkifoabMem
namespace Go.Proofs.Ytmadlmbpgkifoab
open Go.RowKit

/-- Appending to what is owned: the elder slice still owns what it held. -/
theorem run_append_keep {P : Program} (w : World) (base : Nat) (t ty e : TypeId) (i : TypeInfo) (z : Value) (bytes : Nat) (ht : P.underlying t = some (.slice e)) (hi : P.info? e = some i) (hz : i.zero = some z)
    (hsize : i.size = 1) (hby : i.bytes = bytes) (hzs : z.cells.size = 1)
    (v : Value) (n : Nat) (xs : List Value) (hown : w.ownsRow base e 1 v n xs)
    (a : Addr) (m c : Nat) (news : List Value) (hl : news.length = m * 1) (hnews : ∀ j u, news[j]? = some u → w.cell? (a.add j) = some u) (h1 : ∀ u ∈ news, u.oneCell' = true)
    (h63 : n + m ≤ maxLen) (hbytes : (n + m) * bytes ≤ 140737488355328) (hbase : base ≤ w.heap.size) :
    ∃ v' w', (Builtin.append_ #[t, t] ty #[v, .slice (some a) m c]).run P w = .ok v' w' ∧ w'.ownsRow base e 1 v' (n + m) (xs ++ news) ∧ w.grownBy w' v.ownBlock ∧
      (v'.ownBlock = v.ownBlock ∨ v'.ownBlock = some w.heap.size) ∧ w'.ownsRow base e 1 v n xs := by
  obtain ⟨v', w', hr, h2, h3, _, h5⟩ := run_append_own_at (P := P) w base t ty e i z 1 bytes ht hi hz hsize hby hzs (by decide) v n xs hown a m c news hl hnews h1 h63 hbytes hbase
  refine ⟨v', w', hr, h2, h3, h5, ?_⟩
  have hxl : xs.length = n := by simpa using hown.1
  rcases hown.2 with ⟨rfl, rfl⟩ | ⟨g, cap, cur, rfl, hbg, hg, hnc, hcm, hcs, htake⟩
  · exact ⟨hown.1, Or.inl ⟨rfl, rfl⟩⟩
  · have hsm : n + m ≤ 9223372036854775807 := by simp only [maxLen] at h63; omega
    by_cases hroom : n + m ≤ cap
    · have hr2 := run_append_room (P := P) w t ty e i ht hi g n cap cur hg a m c news (by rw [hsize]; exact hl) hnews h1 hroom (by rw [hsize]; omega)
      rw [hr] at hr2
      simp only [Result.ok.injEq] at hr2
      obtain ⟨rfl, _⟩ := hr2
      rcases h2.2 with ⟨h, _⟩ | ⟨g', cap', cur', h, hbg', hg', _, hcm', hcs', htake'⟩
      · simp at h
      · simp only [Value.slice.injEq, Option.some.injEq, Addr.mk.injEq, and_true, true_and] at h
        obtain ⟨rfl, rfl⟩ := h
        refine ⟨hown.1, Or.inr ⟨g, cap, cur', rfl, hbg, hg', hnc, hcm, hcs', ?_⟩⟩
        have e1 : (cur'.toList.take ((n + m) * 1)).take (n * 1) = cur'.toList.take (n * 1) := by
          rw [List.take_take]
          congr 1
          omega
        rw [← e1, htake', ← hown.1]
        exact List.take_left
    · have holds : ∀ j u, xs[j]? = some u → w.cell? ((⟨g, 0, none⟩ : Addr).add j) = some u := hown.cells (g := g) rfl
      have hr2 := run_append_grow (P := P) w t ty e i z ht hi hz ⟨g, 0, none⟩ n cap xs (by rw [hsize]; exact hown.1) holds a m c news (by rw [hsize]; exact hl) hnews (by omega) (by omega) (by rw [hby]; exact growslice_fits (by omega) hbytes)
      rw [hr] at hr2
      simp only [Result.ok.injEq] at hr2
      obtain ⟨_, rfl⟩ := hr2
      exact ⟨hown.1, Or.inr ⟨g, cap, cur, rfl, hbg, (Below.heap_alloc w.drew _ g (lt_of_block (w := w) hg)).trans hg, hnc, hcm, hcs, htake⟩⟩

theorem wpList_append_keep {P : Program} (w : World) {ops : Array Oper} {rest : List Oper} {o : Oper} {a : Act} {Q : Exit → Act → World → Prop} (hgd : o.guard = none) (s x : Operand) (t : TypeId)
    (ho : o.op = .call { callee := .builtin .append, args := #[s, x], argTypes := #[t, t] })
    (base : Nat) (e : TypeId) (i : TypeInfo) (z : Value) (bytes : Nat) (ht : P.underlying t = some (.slice e)) (hi : P.info? e = some i) (hz : i.zero = some z)
    (hsize : i.size = 1) (hby : i.bytes = bytes) (hzs : z.cells.size = 1)
    (v : Value) (n : Nat) (xs : List Value) (hs : a.eval s = v) (hown : w.ownsRow base e 1 v n xs)
    (ad : Addr) (m c : Nat) (news : List Value) (hx : a.eval x = .slice (some ad) m c) (hl : news.length = m * 1) (hnews : ∀ j u, news[j]? = some u → w.cell? (ad.add j) = some u) (h1 : ∀ u ∈ news, u.oneCell' = true)
    (h63 : n + m ≤ maxLen) (hbytes : (n + m) * bytes ≤ 140737488355328) (hbase : base ≤ w.heap.size)
    (h : ∀ v' w', w'.ownsRow base e 1 v' (n + m) (xs ++ news) → w.grownBy w' v.ownBlock → (v'.ownBlock = v.ownBlock ∨ v'.ownBlock = some w.heap.size) → w'.ownsRow base e 1 v n xs → wpList P ops Q rest (a.put o.dst v') w') :
    wpList P ops Q (o :: rest) a w := by
  refine wpList_plain hgd fun K hK => ?_
  obtain ⟨v', w', hr, h2, h3, h4, h5⟩ := run_append_keep (P := P) w base t o.type e i z bytes ht hi hz hsize hby hzs v n xs hown ad m c news hl hnews h1 h63 hbytes hbase
  unfold Oper.wp execOp
  simp only [ho, resolve, invoke, builtin, Sem.run_bind, Sem.run_pure, Result.andThen_ok, List.map_toArray, List.map_cons, List.map_nil, hs, hx, hr]
  exact hK _ _ (h v' w' h2 h3 h4 h5)

/-- A byte of an owned row: read, not frozen, written. -/
theorem own_cell {w : World} {base : Nat} {e : TypeId} {v : Value} {xs : List Nat} (h : w.ownsRow base e 1 v xs.length (by8 xs)) {g : Nat} (hg : v.ownBlock = some g) (j : Nat) (hj : j < xs.length) : w.cell? ⟨g, j, none⟩ = some (.int .u8 ((xs.getD j 0 : Nat) : Int)) ∧ w.frozen? ⟨g, j, none⟩ = false := by
  have h0 := h
  rcases h.2 with ⟨rfl, _⟩ | ⟨g', cap, cur, rfl, _, hh, _⟩
  · simp [Value.ownBlock] at hg
  · simp [Value.ownBlock] at hg
    subst hg
    have := h0.cells (g := g') rfl j _ (by8_get xs j hj)
    rw [Addr.add_lit, Nat.zero_add] at this
    exact ⟨this, by simp [World.frozen?, hh]⟩
theorem own_set {w : World} {base : Nat} {e : TypeId} {v : Value} {xs : List Nat} (h : w.ownsRow base e 1 v xs.length (by8 xs)) {g : Nat} (hg : v.ownBlock = some g) (j c : Nat) : (w.setCell ⟨g, j, none⟩ (.int .u8 (c : Int))).ownsRow base e 1 v (xs.set j c).length (by8 (xs.set j c)) := by
  rcases h.2 with ⟨rfl, _⟩ | ⟨g', cap, cur, rfl, hb, hh, hn, hm, hs, ht⟩
  · simp [Value.ownBlock] at hg
  · simp [Value.ownBlock] at hg
    subst hg
    have h1 := heap_setCell_same w g' j cur e (.int .u8 (c : Int)) hh
    refine ⟨by rw [by8_length, Nat.mul_one], Or.inr ⟨g', cap, _, by rw [List.length_set], hb, h1, by rw [List.length_set]; exact hn, hm, by simpa using hs, ?_⟩⟩
    rw [List.length_set, Array.toList_setIfInBounds, List.take_set, ht]
    simp [by8]
theorem own_addr {w : World} {base : Nat} {e : TypeId} {ao : Option Addr} {n cap m : Nat} {xs : List Value} (h : w.ownsRow base e 1 (.slice ao n cap) m xs) (hm : 1 ≤ m) : ∃ g, ao = some ⟨g, 0, none⟩ := by
  rcases h.2 with ⟨_, h0⟩ | ⟨g', cap, cur, e1, _⟩
  · omega
  · simp only [Value.slice.injEq] at e1
    exact ⟨g', e1.1⟩

/-- Rows of bytes, each owned, no two in one block. -/
structure Kp (E : TypeId) (w : World) (base : Nat) (Vs : List Value) (ks : List (List Nat)) : Prop where
  vlen : Vs.length = ks.length
  own : ∀ i, i < ks.length → w.ownsRow base E 1 (Vs.getD i (.slice none 0 0)) (ks.getD i []).length (by8 (ks.getD i []))
  apart : ∀ i j, i < ks.length → j < ks.length → i ≠ j → ∀ k, (Vs.getD i (.slice none 0 0)).ownBlock = some k → (Vs.getD j (.slice none 0 0)).ownBlock ≠ some k

theorem Kp.nil (E : TypeId) (w : World) (base : Nat) : Kp E w base [] [] := ⟨rfl, fun i h => by simp at h, fun i j h => by simp at h⟩
theorem Kp.fr {E : TypeId} {w w' : World} {base : Nat} {Vs : List Value} {ks : List (List Nat)} {S : Nat → Prop} (h : Kp E w base Vs ks) (hf : Fr w w' S) (hS : ∀ i, i < ks.length → ∀ k, (Vs.getD i (.slice none 0 0)).ownBlock = some k → ¬ S k) : Kp E w' base Vs ks :=
  ⟨h.vlen, fun i hi => own_fr (h.own i hi) hf (hS i hi), h.apart⟩
theorem Kp.lt {E : TypeId} {w : World} {base : Nat} {Vs : List Value} {ks : List (List Nat)} (h : Kp E w base Vs ks) {i : Nat} (hi : i < ks.length) {k : Nat} (hk : (Vs.getD i (.slice none 0 0)).ownBlock = some k) : base ≤ k ∧ k < w.heap.size := (h.own i hi).lt k hk
theorem getD_snoc {α : Type} (l : List α) (x d : α) (i : Nat) : (l ++ [x]).getD i d = if i < l.length then l.getD i d else if i = l.length then x else d := by
  by_cases h : i < l.length
  · rw [if_pos h]
    simp only [List.getD, List.getElem?_append_left h]
  · rw [if_neg h]
    by_cases h2 : i = l.length
    · subst h2
      simp [List.getD]
    · rw [if_neg h2]
      simp [List.getD, List.getElem?_append_right (show l.length ≤ i by omega)]
      have : i - l.length ≠ 0 := by omega
      simp [this]
theorem getD_set {α : Type} (l : List α) (x d : α) (i j : Nat) (hi : i < l.length) : (l.set i x).getD j d = if j = i then x else l.getD j d := by
  by_cases h : j = i
  · subst h
    simp [List.getD, hi]
  · rw [if_neg h]
    simp [List.getD, Ne.symm h]
theorem Kp.snoc {E : TypeId} {w : World} {base : Nat} {Vs : List Value} {ks : List (List Nat)} (h : Kp E w base Vs ks) {v : Value} {x : List Nat} (ho : w.ownsRow base E 1 v x.length (by8 x)) (hne : ∀ i, i < ks.length → ∀ k, (Vs.getD i (.slice none 0 0)).ownBlock = some k → v.ownBlock ≠ some k) : Kp E w base (Vs ++ [v]) (ks ++ [x]) := by
  have hv := h.vlen
  refine ⟨by simp [hv], fun i hi => ?_, fun i j hi hj hij k hk => ?_⟩
  · rw [List.length_append, List.length_singleton] at hi
    rw [getD_snoc, getD_snoc, hv]
    by_cases h1 : i < ks.length
    · rw [if_pos h1, if_pos h1]
      exact h.own i h1
    · rw [if_neg h1, if_neg h1, if_pos (show i = ks.length by omega), if_pos (show i = ks.length by omega)]
      exact ho
  · rw [List.length_append, List.length_singleton] at hi hj
    rw [getD_snoc, hv] at hk ⊢
    by_cases h1 : i < ks.length
    · rw [if_pos h1] at hk
      by_cases h2 : j < ks.length
      · rw [if_pos h2]
        exact h.apart i j h1 h2 hij k hk
      · rw [if_neg h2, if_pos (show j = ks.length by omega)]
        exact hne i h1 k hk
    · rw [if_neg h1, if_pos (show i = ks.length by omega)] at hk
      rw [if_pos (show j < ks.length by omega)]
      intro e
      exact hne j (by omega) k e hk
theorem Kp.turn {E : TypeId} {w w' : World} {base : Nat} {Vs : List Value} {ks : List (List Nat)} (h : Kp E w base Vs ks) {i : Nat} (hi : i < ks.length) {x : List Nat} (hf : Fr w w' (fun k => (Vs.getD i (.slice none 0 0)).ownBlock = some k)) (ho : w'.ownsRow base E 1 (Vs.getD i (.slice none 0 0)) x.length (by8 x)) : Kp E w' base Vs (ks.set i x) := by
  refine ⟨by simp [h.vlen], fun j hj => ?_, fun j l hj hl => h.apart j l (by simpa using hj) (by simpa using hl)⟩
  rw [List.length_set] at hj
  rw [getD_set _ _ _ _ _ hi]
  by_cases hji : j = i
  · rw [if_pos hji, hji]
    exact ho
  · rw [if_neg hji]
    exact own_fr (h.own j hj) hf (fun k hk => h.apart j i hj hi hji k hk)
end Go.Proofs.Ytmadlmbpgkifoab
