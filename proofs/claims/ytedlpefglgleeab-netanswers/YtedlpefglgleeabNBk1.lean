/- Books of rows of bytes that may begin inside a block, with two spines; the law's apart: what stands. -/
import Derived.Test.YtedlpefglgleeabNOwnP
import Derived.Test.YtedlpefglgleeabNLend
import Derived.Deep.OwnRows
namespace Go.Proofs.Ytedlpefglgleeab
open Go.RowKit

def nq : Value := .slice none 0 0
theorem getD_snq {α : Type} (l : List α) (x d : α) (i : Nat) : (l ++ [x]).getD i d = if i < l.length then l.getD i d else if i = l.length then x else d := by
  by_cases h : i < l.length
  · rw [if_pos h]
    simp only [List.getD, List.getElem?_append_left h]
  · rw [if_neg h]
    by_cases e : i = l.length
    · subst e
      simp [List.getD]
    · have h3 : ((l ++ [x])[i]? : Option α) = none := List.getElem?_eq_none (by simp; omega)
      have h4 : (l[i]? : Option α) = none := List.getElem?_eq_none (by omega)
      simp only [List.getD, h3, Option.getD_none]
      rw [if_neg e]
theorem getD_seq {α : Type} {l : List α} {i j : Nat} {x d : α} (hi : i < l.length) : (l.set i x).getD j d = if j = i then x else l.getD j d := by
  by_cases h : j = i
  · subst h
    simp [List.getD, hi]
  · rw [if_neg h]
    simp [List.getD, List.getElem?_set_ne (fun e => h e.symm)]
/-- Rows, each in a block of its own. -/
structure Kq (w : World) (base : Nat) (Vs : List Value) (ks : List (List Nat)) : Prop where
  vlen : Vs.length = ks.length
  own : ∀ i, i < ks.length → Rw w base 5 (Vs.getD i nq) (ks.getD i [])
  apart : ∀ i j, i < ks.length → j < ks.length → i ≠ j → ∀ k, (Vs.getD i nq).ownBlock = some k → (Vs.getD j nq).ownBlock ≠ some k
theorem Kq.nil (w : World) (base : Nat) : Kq w base [] [] := ⟨rfl, fun i h => by simp at h, fun i j h => by simp at h⟩
theorem Kq.fr {w w' : World} {base : Nat} {Vs : List Value} {ks : List (List Nat)} {S : Nat → Prop} (h : Kq w base Vs ks) (hf : Fr w w' S) (hS : ∀ i, i < ks.length → ∀ k, (Vs.getD i nq).ownBlock = some k → ¬ S k) : Kq w' base Vs ks :=
  ⟨h.vlen, fun i hi => (h.own i hi).fr hf (hS i hi), h.apart⟩
theorem Kq.lt {w : World} {base : Nat} {Vs : List Value} {ks : List (List Nat)} (h : Kq w base Vs ks) {i : Nat} (hi : i < ks.length) {k : Nat} (hk : (Vs.getD i nq).ownBlock = some k) : base ≤ k ∧ k < w.heap.size := (h.own i hi).lt hk
theorem Kq.snoc {w : World} {base : Nat} {Vs : List Value} {ks : List (List Nat)} (h : Kq w base Vs ks) {v : Value} {x : List Nat} (ho : Rw w base 5 v x) (hne : ∀ i, i < ks.length → ∀ k, (Vs.getD i nq).ownBlock = some k → v.ownBlock ≠ some k) : Kq w base (Vs ++ [v]) (ks ++ [x]) := by
  have hl := h.vlen
  refine ⟨by simp [hl], fun i hi => ?_, fun i j hi hj hij k hk => ?_⟩
  · rw [List.length_append, List.length_singleton] at hi
    rw [getD_snq, getD_snq, hl]
    by_cases h1 : i < ks.length
    · rw [if_pos h1, if_pos h1]; exact h.own i h1
    · rw [if_neg h1, if_neg h1, if_pos (show i = ks.length by omega), if_pos (show i = ks.length by omega)]; exact ho
  · rw [List.length_append, List.length_singleton] at hi hj
    rw [getD_snq, hl] at hk ⊢
    by_cases h1 : i < ks.length
    · rw [if_pos h1] at hk
      by_cases h2 : j < ks.length
      · rw [if_pos h2]; exact h.apart i j h1 h2 hij k hk
      · rw [if_neg h2, if_pos (show j = ks.length by omega)]; exact hne i h1 k hk
    · rw [if_neg h1, if_pos (show i = ks.length by omega)] at hk
      have h2 : j < ks.length := by omega
      rw [if_pos h2]
      intro e
      exact hne j h2 k e hk
theorem Kq.turn {w w' : World} {base : Nat} {Vs : List Value} {ks : List (List Nat)} (h : Kq w base Vs ks) {i : Nat} (hi : i < ks.length) {x : List Nat} (hf : Fr w w' (fun k => (Vs.getD i nq).ownBlock = some k)) (ho : Rw w' base 5 (Vs.getD i nq) x) : Kq w' base Vs (ks.set i x) := by
  refine ⟨by rw [List.length_set]; exact h.vlen, fun j hj => ?_, fun a b ha hb => h.apart a b (by simpa using ha) (by simpa using hb)⟩
  rw [List.length_set] at hj
  rw [getD_seq hi]
  by_cases e : j = i
  · subst e; rw [if_pos rfl]; exact ho
  · rw [if_neg e]
    exact (h.own j hj).fr hf (fun k hk hi2 => h.apart j i hj hi e k hk hi2)
/-- A spine's block is none of the rows'. -/
theorem spine_nq {w : World} {base lo n : Nat} {v u : Value} {vs : List Value} {xs : List Nat} (h : w.ownsRow base 22 1 v n vs) (h2 : Rw w lo 5 u xs) : ∀ b, v.ownBlock = some b → u.ownBlock ≠ some b := by
  intro b hb
  rcases h.2 with ⟨rfl, _⟩ | ⟨g, cap, cur, rfl, _, hg, _⟩
  · simp [Value.ownBlock] at hb
  · simp [Value.ownBlock] at hb
    subst hb
    exact h2.ne hg (by decide)
theorem own_setW {w : World} {base : Nat} {e : TypeId} {v : Value} {n : Nat} {vs : List Value} (h : w.ownsRow base e 1 v n vs) {g : Nat} (hg : v.ownBlock = some g) (j : Nat) (u : Value) : (w.setCell ⟨g, j, none⟩ u).ownsRow base e 1 v n (vs.set j u) := by
  have hl := h.1
  rcases h.2 with ⟨rfl, _⟩ | ⟨g', cap, cur, rfl, hb, hh, hn, hm, hs, ht⟩
  · simp [Value.ownBlock] at hg
  · simp [Value.ownBlock] at hg
    subst hg
    have h1 := heap_setCell_same w g' j cur e u hh
    refine ⟨by rw [List.length_set]; exact hl, Or.inr ⟨g', cap, _, rfl, hb, h1, hn, hm, by simpa using hs, ?_⟩⟩
    rw [Array.toList_setIfInBounds, List.take_set, ht]
theorem spine_cellq {wx : World} {base : Nat} {v : Value} {VS : List Value} {n : Nat} (h : wx.ownsRow base 22 1 v n VS) {i : Nat} (hi : i < n) : ∃ g cap, v = .slice (some ⟨g, 0, none⟩) n cap ∧ wx.cell? ⟨g, i, none⟩ = some (VS.getD i nq) ∧ wx.frozen? ⟨g, i, none⟩ = false := by
  have hl : VS.length = n := by simpa using h.1
  rcases h.2 with ⟨_, h0⟩ | ⟨g, cap, cur, rfl, _, hh, _⟩
  · omega
  · refine ⟨g, cap, rfl, ?_, by simp [World.frozen?, hh]⟩
    have := h.cells (g := g) rfl i (VS.getD i nq) (by simp [List.getD, hl, hi])
    rwa [Addr.add_lit, Nat.zero_add] at this
/-- Spines vK, vW; rows VK with ks, VW with xs: n of each; since the world w only the kept rows' blocks have turned. -/
structure BQ (N : Nat) (w wx : World) (vK vW : Value) (VK VW : List Value) (ks xs : List (List Nat)) (n : Nat) : Prop where
  fr : Fr w wx (fun k => ∃ i, i < n ∧ (VK.getD i nq).ownBlock = some k)
  sk : wx.ownsRow N 22 1 vK n VK
  sw : wx.ownsRow N 22 1 vW n VW
  sp : ∀ b, vK.ownBlock = some b → vW.ownBlock ≠ some b
  k : Kq wx N VK ks
  u : Kq wx N VW xs
  cross : ∀ i j, i < n → j < n → ∀ b, (VK.getD i nq).ownBlock = some b → (VW.getD j nq).ownBlock ≠ some b
  klen : ks.length = n
  len : xs.length = n
  base : N ≤ w.heap.size
  short : ∀ i, (xs.getD i []).length ≤ 70368744177664
theorem BQ.step {N : Nat} {w wx wy : World} {vK vW : Value} {VK VW : List Value} {ks xs : List (List Nat)} {n : Nat} (h : BQ N w wx vK vW VK VW ks xs n) (hf : Fr wx wy (fun _ => False)) : BQ N w wy vK vW VK VW ks xs n :=
  ⟨h.fr.trans (hf.mono (fun _ _ h => h.elim)), own_fr h.sk hf (fun _ _ h => h), own_fr h.sw hf (fun _ _ h => h), h.sp, h.k.fr hf (fun _ _ _ _ h => h), h.u.fr hf (fun _ _ _ _ h => h), h.cross, h.klen, h.len, h.base, h.short⟩
theorem BQ.turn {N : Nat} {w wx wy : World} {vK vW : Value} {VK VW : List Value} {ks xs : List (List Nat)} {n j : Nat} (h : BQ N w wx vK vW VK VW ks xs n) (hj : j < n) {x : List Nat} (hf : Fr wx wy (fun k => (VK.getD j nq).ownBlock = some k)) (ho : Rw wy N 5 (VK.getD j nq) x) : BQ N w wy vK vW VK VW (ks.set j x) xs n := by
  have hjk : j < ks.length := by rw [h.klen]; exact hj
  have hoA := h.k.own j hjk
  exact ⟨h.fr.trans (hf.mono (fun k _ e => ⟨j, hj, e⟩)), own_fr h.sk hf (fun k hk e => spine_nq h.sk hoA k hk e), own_fr h.sw hf (fun k hk e => spine_nq h.sw hoA k hk e), h.sp, h.k.turn hjk hf ho, h.u.fr hf (fun i hi k hk e => h.cross j i hj (by rw [← h.len]; exact hi) k e hk), h.cross, by rw [List.length_set]; exact h.klen, h.len, h.base, h.short⟩
/-- What was appended: two bytes behind the row; in the row's own block, at its place, or in a new one, in no other row's. -/
def MoQ (W : World) (base : Nat) (VK : List Value) (n q len : Nat) (M : Value) (m1 m2 : Int) : Prop :=
  ∃ g o cap cs, M = .slice (some ⟨g, o, none⟩) (len + 2) cap ∧ base ≤ g ∧ W.heap[g]? = some (.cells cs 5 (0, 0)) ∧ cs[o + len]? = some (.int .u8 m1) ∧ cs[o + (len + 1)]? = some (.int .u8 m2) ∧ (∀ j, j < n → j ≠ q → (VK.getD j nq).ownBlock ≠ some g) ∧ ∀ b off n' cap', VK.getD q nq = .slice (some ⟨b, off, none⟩) n' cap' → b = g → off = o
theorem MoQ.fr {W W' : World} {base : Nat} {VK : List Value} {n q len : Nat} {M : Value} {m1 m2 : Int} (h : MoQ W base VK n q len M m1 m2) {S : Nat → Prop} (hf : Fr W W' S) (hS : ∀ g o cap, M = .slice (some ⟨g, o, none⟩) (len + 2) cap → ¬ S g) : MoQ W' base VK n q len M m1 m2 := by
  obtain ⟨g, o, cap, cs, hM, hb, hh, h1, h2, h3⟩ := h
  exact ⟨g, o, cap, cs, hM, hb, by rw [hf.block g (lt_of_block hh) (hS g o cap hM)]; exact hh, h1, h2, h3⟩
theorem MoQ.put {W : World} {base : Nat} {VK : List Value} {n q len : Nat} {M : Value} {m1 m2 : Int} (h : MoQ W base VK n q len M m1 m2) {b off n' cap' k j : Nat} (u : Value) (hb : VK.getD j nq = .slice (some ⟨b, off, none⟩) n' cap') (hj : j < n) (hk : j = q → k < len) : MoQ (W.setCell ⟨b, off + k, none⟩ u) base VK n q len M m1 m2 := by
  obtain ⟨g, o, cap, cs, hM, hbs, hh, h1, h2, h3, h4⟩ := h
  by_cases he : g = b
  · subst he
    have hjq : j = q := by
      rcases Nat.decEq j q with h | h
      · exact absurd (by rw [hb]; rfl) (h3 j hj h)
      · exact h
    have hkl := hk hjq
    rw [hjq] at hb
    have ho := h4 g off n' cap' hb rfl
    subst ho
    refine ⟨g, off, cap, _, hM, hbs, heap_setCell_same W g (off + k) cs 5 u hh, ?_, ?_, h3, h4⟩
    · rw [Array.getElem?_setIfInBounds_ne (by omega)]; exact h1
    · rw [Array.getElem?_setIfInBounds_ne (by omega)]; exact h2
  · exact ⟨g, o, cap, cs, hM, hbs, by rw [Below.heap_setCell _ _ _ _ (by simpa using he)]; exact hh, h1, h2, h3, h4⟩
theorem MoQ.cells {W : World} {base : Nat} {VK : List Value} {n q len : Nat} {M : Value} {m1 m2 : Int} (h : MoQ W base VK n q len M m1 m2) : ∃ g o cap, M = .slice (some ⟨g, o, none⟩) (len + 2) cap ∧ W.cell? ⟨g, o + len, none⟩ = some (.int .u8 m1) ∧ W.cell? ⟨g, o + (len + 1), none⟩ = some (.int .u8 m2) := by
  obtain ⟨g, o, cap, cs, hM, hb, hh, h1, h2, _⟩ := h
  exact ⟨g, o, cap, hM, by rw [cell_of_row W g (o + len) _ _ (0, 0) hh]; exact h1, by rw [cell_of_row W g (o + (len + 1)) _ _ (0, 0) hh]; exact h2⟩
/-- append of two bytes to a row that stays: in its place, or in a new block. -/
theorem run_append_two {P : Program} (w : World) (base : Nat) (t ty e : TypeId) (i : TypeInfo) (ht : P.underlying t = some (.slice e)) (hi : P.info? e = some i) (hz : i.zero = some (.int .u8 0)) (hsize : i.size = 1) (hby : i.bytes = 1)
    (v : Value) (xs : List Nat) (h : Rw w base e v xs) (x : Value) (y1 y2 : Nat) (hs : Src P 1 t x 2 (by8 [y1, y2]) w) (hb : xs.length + 2 ≤ 140737488355328) (hbase : base ≤ w.heap.size) :
    ∃ g o cap w' cs, (Builtin.append_ #[t, t] ty #[v, x]).run P w = .ok (.slice (some ⟨g, o, none⟩) (xs.length + 2) cap) w' ∧ Rw w' base e v xs ∧ Fr w w' (fun k => v.ownBlock = some k) ∧ base ≤ g ∧ w'.heap[g]? = some (.cells cs e (0, 0)) ∧ cs[o + xs.length]? = some (.int .u8 (y1 : Int)) ∧ cs[o + (xs.length + 1)]? = some (.int .u8 (y2 : Int)) ∧ ((v.ownBlock = some g ∧ ∀ b off n' cap', v = .slice (some ⟨b, off, none⟩) n' cap' → off = o) ∨ g = w.heap.size) := by
  have hs1 : Src P i.size t x 2 (by8 [y1, y2]) w := by rw [hsize]; exact hs
  have key : ∀ {ao : Option Addr} {b off cap : Nat}, v = .slice ao xs.length cap → xs.length ≤ cap → cap ≤ maxLen → (∀ a, ao = some a → base ≤ a.block ∧ a.block < w.heap.size) → (0 < cap → ao = some ⟨b, off, none⟩ ∧ ∃ cur : Array Value, w.heap[b]? = some (.cells cur e (0, 0)) ∧ off + cap ≤ cur.size ∧ ∀ j, j < xs.length → cur[off + j]? = some (.int .u8 ((xs.getD j 0 : Nat) : Int))) → ∃ g o cap w' cs, (Builtin.append_ #[t, t] ty #[v, x]).run P w = .ok (.slice (some ⟨g, o, none⟩) (xs.length + 2) cap) w' ∧ Rw w' base e v xs ∧ Fr w w' (fun k => v.ownBlock = some k) ∧ base ≤ g ∧ w'.heap[g]? = some (.cells cs e (0, 0)) ∧ cs[o + xs.length]? = some (.int .u8 (y1 : Int)) ∧ cs[o + (xs.length + 1)]? = some (.int .u8 (y2 : Int)) ∧ ((v.ownBlock = some g ∧ ∀ b off n' cap', v = .slice (some ⟨b, off, none⟩) n' cap' → off = o) ∨ g = w.heap.size) := by
    intro ao b off cap hv hle hcm hst hcap
    by_cases hfit : xs.length + 2 ≤ cap
    · obtain ⟨rfl, cur, hg, hfc, hcs⟩ := hcap (by omega)
      subst hv
      have hcell : ∀ j, w.cell? ⟨b, j, none⟩ = cur[j]? := fun j => cell_of_row w b j cur e (0, 0) hg
      have hr := run_append_room_src (P := P) w t t ty e i ht hi b off xs.length cap x 2 (by8 [y1, y2]) hs1 hfit
        (fun j hj => by rw [by8_length] at hj; rw [hsize, Nat.mul_one, hcell, Array.getElem?_eq_getElem (by simp at hj; omega)]; rfl)
        (fun j hj => free_of hg _)
      rw [hsize, Nat.mul_one] at hr
      obtain ⟨cur', k1, k2, k3, k4⟩ := heap_setCells b e (by8 [y1, y2]) (off + xs.length) w cur hg (by rw [by8_length]; simp; omega)
      have hfr := setCells_fr b (by8 [y1, y2]) (off + xs.length) w
      have hbb := hst ⟨b, off, none⟩ rfl
      refine ⟨b, off, cap, _, cur', hr, ?_, hfr.mono (fun k _ hk => by rw [hk]; rfl), hbb.1, k1, ?_, ?_, Or.inl ⟨rfl, fun b2 off2 n2 cap2 e2 => by simp only [Value.slice.injEq, Option.some.injEq, Addr.mk.injEq, and_true] at e2; exact e2.1.2.symm⟩⟩
      · rcases h with ⟨rfl, e2⟩ | ⟨h1, _⟩
        · simp at e2
        · refine Or.inr ⟨h1, some ⟨b, off, none⟩, b, off, cap, rfl, hle, hcm, fun a ha => ⟨(hst a ha).1, Nat.lt_of_lt_of_le (hst a ha).2 hfr.size⟩, fun _ => ⟨rfl, cur', k1, by omega, fun j hj => ?_⟩⟩
          rw [k4 (off + j) (Or.inl (by omega))]
          exact hcs j hj
      · have := k3 0 (by rw [by8_length]; simp)
        rw [Nat.add_zero] at this
        rw [this]; rfl
      · have := k3 1 (by rw [by8_length]; simp)
        rw [show off + (xs.length + 1) = off + xs.length + 1 from by omega, this]; rfl
    · have hold : (Builtin.firstCells i.size xs.length (.slice ao xs.length cap)).run P w.drew = .ok (by8 xs).toArray w.drew := by
        rcases Nat.eq_zero_or_pos cap with h0 | hc
        · have hx : xs = [] := List.eq_nil_of_length_eq_zero (by omega)
          subst hx
          cases ao with
          | none => exact run_firstCells_none w.drew i.size 0 0 cap
          | some a' => exact run_firstCells_some w.drew i.size 0 a' 0 cap [] (by simp) (by intro _ _ h'; simp at h')
        · obtain ⟨rfl, cur, hg, hfc, hcs⟩ := hcap hc
          refine run_firstCells_some w.drew i.size xs.length ⟨b, off, none⟩ xs.length cap (by8 xs) (by rw [hsize, Nat.mul_one, by8_length]) (fun j u hu => ?_)
          have hj : j < xs.length := by
            rcases Nat.lt_or_ge j xs.length with h | h
            · exact h
            · rw [List.getElem?_eq_none (by rw [by8_length]; exact h)] at hu
              cases hu
          rw [Addr.add_lit, ← hu, by8_get xs j hj]
          exact (cell_of_row w b (off + j) cur e (0, 0) hg).trans (hcs j hj)
      have hr := run_append_grow_src (P := P) w t t ty e i (.int .u8 0) ht hi hz ao xs.length cap (by8 xs) hold x 2 (by8 [y1, y2]) hs1 (by omega) (by omega) (by rw [hby]; exact growslice_fits (by omega) (by omega))
      rw [← hv] at hr
      refine ⟨w.heap.size, 0, _, _, _, hr, h.fr ((Fr.refl w (fun _ => False)).drew.alloc _) (fun _ _ h => h), ((Fr.refl w (fun _ => False)).drew.alloc _).mono (fun _ _ h => h.elim), hbase, heap_alloc_new w.drew _, ?_, ?_, Or.inr rfl⟩
      · rw [Nat.zero_add, ← by8_append, Array.getElem?_append_left (by simp [by8_length]), List.getElem?_toArray, by8_get _ _ (by simp)]
        simp
      · rw [Nat.zero_add, ← by8_append, Array.getElem?_append_left (by simp [by8_length]), List.getElem?_toArray, by8_get _ _ (by simp)]
        simp [List.getD]
  obtain ⟨ao, b, off, cap, hv, hle, hcm, hst, hcap⟩ := h.of
  exact key hv hle hcm hst hcap
end Go.Proofs.Ytedlpefglgleeab
