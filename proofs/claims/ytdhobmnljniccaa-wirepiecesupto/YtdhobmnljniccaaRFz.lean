/- A row of bytes that is cut from the left and appended to; the document's Frames: walks. -/
import Derived.Test.YtdhobmnljniccaaFnew
import Derived.Deep.AppendSrc
import Derived.Deep.Upon
namespace Go.Proofs.Ytdhobmnljniccaa
open Go.RowKit
attribute [local go_sem ↓] Go.wp_at_zero Go.wp_at_succ

theorem setCells_fr (g : Nat) : ∀ (vs : List Value) (o : Nat) (w : World), Fr w (w.setCells g o vs) (fun k => k = g)
  | [], _, _ => Fr.refl _ _
  | v :: r, o, w => (fr_set w g o v).trans (setCells_fr g r (o + 1) _)

theorem heap_setCells (g : Nat) (e : TypeId) : ∀ (vs : List Value) (o : Nat) (w : World) (cur : Array Value), w.heap[g]? = some (.cells cur e (0, 0)) → o + vs.length ≤ cur.size →
    ∃ cur' : Array Value, (w.setCells g o vs).heap[g]? = some (.cells cur' e (0, 0)) ∧ cur'.size = cur.size ∧ (∀ j, j < vs.length → cur'[o + j]? = vs[j]?) ∧ (∀ j, j < o ∨ o + vs.length ≤ j → cur'[j]? = cur[j]?)
  | [], _, _, cur, h, _ => ⟨cur, h, rfl, fun j hj => by simp at hj, fun _ _ => rfl⟩
  | v :: r, o, w, cur, h, hl => by
    have h1 := heap_setCell_same w g o cur e v h
    rw [List.length_cons] at hl
    obtain ⟨cur', e1, e2, e3, e4⟩ := heap_setCells g e r (o + 1) _ _ h1 (by simp; omega)
    refine ⟨cur', e1, by simpa using e2, fun j hj => ?_, fun j hj => ?_⟩
    · match j with
      | 0 =>
        rw [Nat.add_zero, e4 o (Or.inl (by omega))]
        have ho : o < cur.size := by omega
        simp [ho]
      | j + 1 =>
        rw [List.length_cons] at hj
        have := e3 j (by omega)
        rw [show o + (j + 1) = o + 1 + j from by omega, this]
        simp
    · rw [List.length_cons] at hj
      rw [e4 j (by omega)]
      have hne : o ≠ j := by omega
      simp [hne]

/-- Bytes in a row that the call owns, from some place on. -/
def Of (e : TypeId) (w : World) (base : Nat) (v : Value) (xs : List Nat) : Prop :=
  ∃ (ao : Option Addr) (b off cap : Nat), v = .slice ao xs.length cap ∧ xs.length ≤ cap ∧ cap ≤ maxLen ∧ (∀ a, ao = some a → base ≤ a.block ∧ a.block < w.heap.size) ∧
    (0 < cap → ao = some ⟨b, off, none⟩ ∧ ∃ cur : Array Value, w.heap[b]? = some (.cells cur e (0, 0)) ∧ off + cap ≤ cur.size ∧ ∀ j, j < xs.length → cur[off + j]? = some (.int .u8 ((xs.getD j 0 : Nat) : Int)))

theorem Of.nil (e : TypeId) (w : World) (base : Nat) : Of e w base (.slice none 0 0) [] := ⟨none, 0, 0, 0, rfl, by simp, by unfold maxLen; omega, by simp, fun h => by omega⟩
theorem Of.lt {e : TypeId} {w : World} {base : Nat} {v : Value} {xs : List Nat} (h : Of e w base v xs) {k : Nat} (hk : v.ownBlock = some k) : base ≤ k ∧ k < w.heap.size := by
  obtain ⟨ao, b, off, cap, rfl, _, _, h, _⟩ := h
  cases ao with
  | none => simp [Value.ownBlock] at hk
  | some a =>
    simp [Value.ownBlock] at hk
    subst hk
    exact h a rfl
theorem Of.fr {e : TypeId} {w w' : World} {S : Nat → Prop} {base : Nat} {v : Value} {xs : List Nat} (h : Of e w base v xs) (hf : Fr w w' S) (hv : ∀ k, v.ownBlock = some k → ¬ S k) : Of e w' base v xs := by
  obtain ⟨ao, b, off, cap, rfl, h1, h2, h3, h4⟩ := h
  refine ⟨ao, b, off, cap, rfl, h1, h2, fun a ha => ⟨(h3 a ha).1, Nat.lt_of_lt_of_le (h3 a ha).2 hf.size⟩, fun hc => ?_⟩
  obtain ⟨rfl, cur, hg, h5, h6⟩ := h4 hc
  exact ⟨rfl, cur, by rw [hf.block b (lt_of_block hg) (hv b rfl)]; exact hg, h5, h6⟩
theorem Of.drewN {e : TypeId} {w : World} {base : Nat} {v : Value} {xs : List Nat} (h : Of e w base v xs) (n : Nat) : Of e (w.drewN n) base v xs := h.fr (S := fun _ => False) ((Fr.refl _ _).drewN n) (fun _ _ h => h)
theorem Of.ne {e t : TypeId} {w : World} {base : Nat} {v : Value} {xs : List Nat} {B : Nat} {cs : Array Value} {z : Nat × Nat} (h : Of e w base v xs) (hB : w.heap[B]? = some (.cells cs t z)) (hte : t ≠ e) (hx : xs ≠ []) : v.ownBlock ≠ some B := by
  obtain ⟨ao, b, off, cap, rfl, h1, h2, h3, h4⟩ := h
  have h0 : 0 < xs.length := List.length_pos_iff.2 hx
  obtain ⟨rfl, cur, hg, _⟩ := h4 (by omega)
  intro k
  simp [Value.ownBlock] at k
  subst k
  rw [hB] at hg
  simp at hg
  exact hte hg.2.1
theorem Of.cells {e : TypeId} {w : World} {base b off n cap : Nat} {xs : List Nat} (h : Of e w base (.slice (some ⟨b, off, none⟩) n cap) xs) (j : Nat) (hj : j < xs.length) : w.cell? ⟨b, off + j, none⟩ = some (.int .u8 ((xs.getD j 0 : Nat) : Int)) := by
  obtain ⟨ao, b', off', cap', e1, h1, h2, h3, h4⟩ := h
  obtain ⟨e2, cur, hg, _, h6⟩ := h4 (by omega)
  simp only [Value.slice.injEq] at e1
  rw [e2] at e1
  simp only [Option.some.injEq, Addr.mk.injEq] at e1
  obtain ⟨⟨rfl, rfl, _⟩, _, rfl⟩ := e1
  rw [cell_of_row w b (off + j) _ _ (0, 0) hg]
  exact h6 j hj
theorem Of.addr {e : TypeId} {w : World} {base : Nat} {ao : Option Addr} {n cap : Nat} {xs : List Nat} (h : Of e w base (.slice ao n cap) xs) (h1 : 1 ≤ xs.length) : ∃ b off, ao = some ⟨b, off, none⟩ := by
  obtain ⟨ao', b', off', cap', e1, h1, h2, h3, h4⟩ := h
  simp only [Value.slice.injEq] at e1
  exact ⟨b', off', by rw [e1.1]; exact (h4 (by omega)).1⟩
theorem Of.shape {e : TypeId} {w : World} {base : Nat} {v : Value} {xs : List Nat} (h : Of e w base v xs) : ∃ ao cap, v = .slice ao xs.length cap ∧ xs.length ≤ cap ∧ cap ≤ maxLen := by
  obtain ⟨ao, _, _, cap, e1, h1, h2, _⟩ := h
  exact ⟨ao, cap, e1, h1, h2⟩
/-- The rest, as a slice of it. -/
theorem Of.drop {e : TypeId} {w : World} {base b off n cap : Nat} {xs : List Nat} (h : Of e w base (.slice (some ⟨b, off, none⟩) n cap) xs) (q : Nat) (hq : q ≤ xs.length) (hc : ¬ cap = q) : Of e w base (.slice (some ⟨b, off + q, none⟩) (xs.length - q) (cap - q)) (xs.drop q) := by
  obtain ⟨ao, b', off', cap', e1, h1, h2, h3, h4⟩ := h
  simp only [Value.slice.injEq] at e1
  obtain ⟨rfl, _, rfl⟩ := e1
  obtain ⟨e2, cur, hg, h5, h6⟩ := h4 (by omega)
  simp only [Option.some.injEq, Addr.mk.injEq] at e2
  obtain ⟨rfl, rfl, _⟩ := e2
  refine ⟨_, b, off + q, cap - q, by rw [List.length_drop], by rw [List.length_drop]; omega, by omega, fun a ha => ?_, fun _ => ⟨rfl, cur, hg, by omega, fun j hj => ?_⟩⟩
  · cases ha
    exact h3 ⟨b, off, none⟩ rfl
  · rw [List.length_drop] at hj
    rw [show off + q + j = off + (q + j) from by omega, h6 (q + j) (by omega)]
    simp [List.getD]
theorem Of.dropAll {e : TypeId} {w : World} {base n cap : Nat} {ao : Option Addr} {xs : List Nat} (h : Of e w base (.slice ao n cap) xs) (q : Nat) (hq : xs.length ≤ q) : Of e w base (.slice ao 0 0) (xs.drop q) := by
  obtain ⟨ao', b', off', cap', e1, h1, h2, h3, h4⟩ := h
  simp only [Value.slice.injEq] at e1
  obtain ⟨rfl, _, rfl⟩ := e1
  rw [List.drop_eq_nil_of_le hq]
  exact ⟨ao, b', off', 0, rfl, by simp, by unfold maxLen; omega, h3, fun h => by omega⟩
theorem Of.bs {e : TypeId} {w : World} {base b off n cap : Nat} {xs : List Nat} (h : Of e w base (.slice (some ⟨b, off, none⟩) n cap) xs) (q K c : Nat) (hq : q + K ≤ xs.length) : Bs w (.slice (some ⟨b, off + q, none⟩) K c) ((xs.drop q).take K) := by
  have hlen : ((xs.drop q).take K).length = K := by simp; omega
  refine Or.inr ⟨⟨b, off + q, none⟩, c, by rw [hlen], fun j u hu => ?_⟩
  have hj : j < K := by
    rcases Nat.lt_or_ge j K with h | h
    · exact h
    · rw [List.getElem?_eq_none (by rw [by8_length, hlen]; exact h)] at hu
      cases hu
  rw [Addr.add_lit, show off + q + j = off + (q + j) from by omega, h.cells (q + j) (by omega), ← hu, by8_get _ j (by omega)]
  simp [List.getD, hj]

theorem bs_src {P : Program} {w : World} {t e' : TypeId} (hk : P.underlying t = some (.slice e')) {v : Value} {zs : List Nat} (h : Bs w v zs) : Src P 1 t v zs.length (by8 zs) w := by
  rcases h with ⟨rfl, rfl⟩ | ⟨a, cap, rfl, h⟩
  · exact Src.ofNil w hk 0
  · exact Src.ofSlice w hk a zs.length cap (by8 zs) (by rw [by8_length, Nat.mul_one]) h (by8_one zs)

theorem run_append_of {P : Program} (w : World) (base : Nat) (t ty e : TypeId) (i : TypeInfo) (ht : P.underlying t = some (.slice e)) (hi : P.info? e = some i) (hz : i.zero = some (.int .u8 0)) (hsize : i.size = 1) (hby : i.bytes = 1)
    (v : Value) (xs : List Nat) (h : Of e w base v xs) (x : Value) (zs : List Nat) (hs : Src P 1 t x zs.length (by8 zs) w) (hb : xs.length + zs.length ≤ 140737488355328) (hbase : base ≤ w.heap.size) :
    ∃ v' w', (Builtin.append_ #[t, t] ty #[v, x]).run P w = .ok v' w' ∧ Of e w' base v' (xs ++ zs) ∧ w.grownBy w' v.ownBlock ∧ (v'.ownBlock = v.ownBlock ∨ v'.ownBlock = some w.heap.size) := by
  have hs1 : Src P i.size t x zs.length (by8 zs) w := by rw [hsize]; exact hs
  obtain ⟨ao, b, off, cap, rfl, hle, hcm, hst, hcap⟩ := h
  by_cases hfit : xs.length + zs.length ≤ cap
  · rcases Nat.eq_zero_or_pos cap with h0 | hc
    · subst h0
      obtain rfl : zs = [] := List.eq_nil_of_length_eq_zero (by omega)
      obtain rfl : xs = [] := List.eq_nil_of_length_eq_zero (by omega)
      exact ⟨_, w, run_append_nothing (P := P) w t t ty e i ht hi ao 0 0 (Nat.le_refl _) x hs1, ⟨ao, b, off, 0, rfl, by simp, hcm, hst, fun h => by omega⟩, ⟨rfl, rfl, rfl, Nat.le_refl _, fun _ _ _ => rfl⟩, Or.inl rfl⟩
    · obtain ⟨rfl, cur, hg, hfc, hcs⟩ := hcap hc
      have hcell : ∀ j, w.cell? ⟨b, j, none⟩ = cur[j]? := fun j => cell_of_row w b j cur e (0, 0) hg
      have hr := run_append_room_src (P := P) w t t ty e i ht hi b off xs.length cap x zs.length (by8 zs) hs1 hfit
        (fun j hj => by rw [by8_length] at hj; rw [hsize, Nat.mul_one, hcell, Array.getElem?_eq_getElem (by omega)]; rfl)
        (fun j hj => free_of hg _)
      rw [hsize, Nat.mul_one] at hr
      obtain ⟨cur', k1, k2, k3, k4⟩ := heap_setCells b e (by8 zs) (off + xs.length) w cur hg (by rw [by8_length]; omega)
      have hfr := setCells_fr b (by8 zs) (off + xs.length) w
      refine ⟨_, _, hr, ⟨some ⟨b, off, none⟩, b, off, cap, by rw [List.length_append], by rw [List.length_append]; exact hfit, hcm, fun a ha => ⟨(hst a ha).1, Nat.lt_of_lt_of_le (hst a ha).2 hfr.size⟩, fun _ => ⟨rfl, cur', k1, by omega, fun j hj => ?_⟩⟩,
        ⟨hfr.os, hfr.tape, hfr.output, hfr.size, fun k hk hn => hfr.block k hk (fun e => hn (by rw [e]; rfl))⟩, Or.inl rfl⟩
      rw [List.length_append] at hj
      by_cases hj2 : j < xs.length
      · rw [k4 (off + j) (Or.inl (by omega)), hcs j hj2]
        simp only [List.getD, List.getElem?_append_left hj2]
      · have := k3 (j - xs.length) (by rw [by8_length]; omega)
        rw [show off + xs.length + (j - xs.length) = off + j from by omega] at this
        rw [this, by8_get zs (j - xs.length) (by omega)]
        simp [List.getD, List.getElem?_append_right (show xs.length ≤ j by omega)]
  · have hold : (Builtin.firstCells i.size xs.length (.slice ao xs.length cap)).run P w.drew = .ok (by8 xs).toArray w.drew := by
      rcases Nat.eq_zero_or_pos cap with h0 | hc
      · have hx : xs = [] := List.eq_nil_of_length_eq_zero (by omega)
        subst hx
        cases ao with
        | none => exact run_firstCells_none w.drew i.size 0 0 cap
        | some a' => exact run_firstCells_some w.drew i.size 0 a' 0 cap [] (by simp) (by intro _ _ h'; simp at h')
      · obtain ⟨rfl, cur, hg, hfc, hcs⟩ := hcap hc
        refine run_firstCells_some w.drew i.size xs.length ⟨b, off, none⟩ xs.length cap (by8 xs) (by rw [hsize, Nat.mul_one, by8_length]) (fun j u hu => ?_)
        have hj : j < xs.length := by
          rcases Nat.lt_or_ge j xs.length with h | h
          · exact h
          · rw [List.getElem?_eq_none (by rw [by8_length]; exact h)] at hu
            cases hu
        rw [Addr.add_lit, ← hu, by8_get xs j hj]
        exact (cell_of_row w b (off + j) cur e (0, 0) hg).trans (hcs j hj)
    have hr := run_append_grow_src (P := P) w t t ty e i (.int .u8 0) ht hi hz ao xs.length cap (by8 xs) hold x zs.length (by8 zs) hs1 (by omega) (by omega) (by rw [hby]; exact growslice_fits (by omega) (by omega))
    have hge := grownCap_ge w (xs.length + zs.length) cap e
    have hgm := grownCap_le_maxLen w (xs.length + zs.length) cap e (by unfold maxLen; omega)
    refine ⟨_, _, hr, ⟨some ⟨w.heap.size, 0, none⟩, w.heap.size, 0, _, by rw [List.length_append], by rw [List.length_append]; exact hge, hgm, fun a ha => ?_, fun _ => ⟨rfl, _, heap_alloc_new w.drew _, ?_, fun j hj => ?_⟩⟩,
      ⟨rfl, rfl, rfl, by simp, fun k hk _ => Below.heap_alloc w.drew _ k hk⟩, Or.inr rfl⟩
    · cases ha
      exact ⟨hbase, by simp⟩
    · rw [← by8_append, Array.size_append, size_zeroCells]
      simp [by8_length, Value.cells]
      omega
    · rw [Nat.zero_add, ← by8_append, Array.getElem?_append_left (by simpa [by8_length] using hj), List.getElem?_toArray]
      exact by8_get _ j hj

theorem wpList_append_of {P : Program} (w : World) {ops : Array Oper} {rest : List Oper} {o : Oper} {a : Act} {Q : Exit → Act → World → Prop} (hgd : o.guard = none) (s x : Operand) (t : TypeId)
    (ho : o.op = .call { callee := .builtin .append, args := #[s, x], argTypes := #[t, t] })
    (base : Nat) (e : TypeId) (i : TypeInfo) (ht : P.underlying t = some (.slice e)) (hi : P.info? e = some i) (hz : i.zero = some (.int .u8 0)) (hsize : i.size = 1) (hby : i.bytes = 1)
    (v : Value) (xs : List Nat) (hv : a.eval s = v) (hown : Of e w base v xs) (pv : Value) (zs : List Nat) (hx : a.eval x = pv) (hp : Bs w pv zs) (hb : xs.length + zs.length ≤ 140737488355328) (hbase : base ≤ w.heap.size)
    (h : ∀ v' w', Of e w' base v' (xs ++ zs) → w.grownBy w' v.ownBlock → (v'.ownBlock = v.ownBlock ∨ v'.ownBlock = some w.heap.size) → wpList P ops Q rest (a.put o.dst v') w') : wpList P ops Q (o :: rest) a w := by
  refine wpList_plain hgd fun K hK => ?_
  obtain ⟨v', w', hr, h2, h3, h4⟩ := run_append_of (P := P) w base t o.type e i ht hi hz hsize hby v xs hown pv zs (bs_src ht hp) hb hbase
  unfold Oper.wp execOp
  simp only [ho, resolve, invoke, builtin, Sem.run_bind, Sem.run_pure, Result.andThen_ok, List.map_toArray, List.map_cons, List.map_nil, hv, hx, hr]
  exact hK _ _ (h v' w' h2 h3 h4)

/-- The document's Frames at block F: the most, the bytes ahead, whether it is broken. -/
structure Rz (w : World) (base F : Nat) (v : Value) (most : Nat) (B : List Nat) (br : Bool) : Prop where
  cell : w.heap[F]? = some (.cells #[.int .i64 (most : Int), v, .bool br] 58 (0, 0))
  own : Of 5 w base v B
  nf : v.ownBlock ≠ some F
  base : base ≤ F

def RzPost (w : World) (base F : Nat) (v : Value) (most : Nat) (B : List Nat) (br : Bool) (w' : World) : Prop :=
  ∃ v', Rz w' base F v' most B br ∧ Fr w w' (fun k => k = F ∨ v.ownBlock = some k) ∧ Nw w v v'

theorem Rz.fr {w w' : World} {S : Nat → Prop} {base F : Nat} {v : Value} {most : Nat} {B : List Nat} {br : Bool} (h : Rz w base F v most B br) (hf : Fr w w' S) (hF : ¬ S F) (hv : ∀ k, v.ownBlock = some k → ¬ S k) : Rz w' base F v most B br :=
  ⟨by rw [hf.block F (lt_of_block h.cell) hF]; exact h.cell, h.own.fr hf hv, h.nf, h.base⟩
theorem Rz.drewN {w : World} {base F : Nat} {v : Value} {most : Nat} {B : List Nat} {br : Bool} (h : Rz w base F v most B br) (n : Nat) : Rz (w.drewN n) base F v most B br :=
  h.fr (S := fun _ => False) ((Fr.refl _ _).drewN n) (fun h => h) (fun _ _ h => h)
theorem three_cells {w : World} {b : Nat} {v0 v1 v2 : Value} {t : TypeId} (h : w.heap[b]? = some (.cells #[v0, v1, v2] t (0, 0))) :
    w.cell? ⟨b, 0, none⟩ = some v0 ∧ w.cell? ⟨b, 1, none⟩ = some v1 ∧ w.cell? ⟨b, 2, none⟩ = some v2 := by simp [World.cell?, h]

set_option maxHeartbeats 800000 in
set_option maxRecDepth 100000 in
theorem rnew_ok (most : Nat) (w : World) (h1 : 1 ≤ most) (h2 : most ≤ 65536) :
    Calls Try.prog 23 #[.int .i64 (most : Int)] w fun e w' => e = .returned (.tuple #[.pointer (some ⟨w.heap.size, 0, none⟩), .int .i64 0]) ∧ Rz w' w.heap.size w.heap.size (.slice none 0 0) most [] false ∧ Fr w w' (fun _ => False) ∧ w.heap.size < w'.heap.size := by
  have t1 : ¬ (most : Int) < 1 := by omega
  have t2 : ¬ (65536 : Int) < (most : Int) := by omega
  go_enter Try.func23, Try.ntmps23
  go_wp2
  go_ret2
  exact ⟨rfl, ⟨heap_alloc_new w _, Of.nil _ _ _, by simp [Value.ownBlock], Nat.le_refl _⟩, alloc_fr w _ _, by simp⟩

set_option maxHeartbeats 800000 in
set_option maxRecDepth 100000 in
theorem rnew_bad (most : Int) (w : World) (h1 : most < 1 ∨ 65536 < most) :
    Calls Try.prog 23 #[.int .i64 most] w fun e w' => e = .returned (.tuple #[.pointer none, .int .i64 1]) ∧ w' = w := by
  rcases h1 with h1 | h1
  · go_enter Try.func23, Try.ntmps23
    go_wp2
    go_ret2
    exact ⟨rfl, rfl⟩
  · have t1 : ¬ most < 1 := by omega
    go_enter Try.func23, Try.ntmps23
    go_wp2
    go_ret2
    exact ⟨rfl, rfl⟩

theorem mid_stored {w : World} {b : Nat} {v0 v1 v2 x1 : Value} {t : TypeId} (h : w.heap[b]? = some (.cells #[v0, v1, v2] t (0, 0))) :
    (w.setCell ⟨b, 1, none⟩ x1).heap[b]? = some (.cells #[v0, x1, v2] t (0, 0)) := by
  have h1 := heap_setCell_same w b 1 #[v0, v1, v2] t x1 h
  simpa using h1
theorem last_stored {w : World} {b : Nat} {v0 v1 v2 x2 : Value} {t : TypeId} (h : w.heap[b]? = some (.cells #[v0, v1, v2] t (0, 0))) :
    (w.setCell ⟨b, 2, none⟩ x2).heap[b]? = some (.cells #[v0, v1, x2] t (0, 0)) := by
  have h1 := heap_setCell_same w b 2 #[v0, v1, v2] t x2 h
  simpa using h1

/-- A new slice is stored. -/
theorem rz_step {w wa w1 : World} {base F : Nat} {v0 v2 : Value} {most : Nat} {B B' : List Nat} {br : Bool} (h : Rz w base F v0 most B br) (hfa : Fr w wa (fun _ => False))
    (hown : Of 5 w1 base v2 B') (hg : wa.grownBy w1 v0.ownBlock) (hat : v2.ownBlock = v0.ownBlock ∨ v2.ownBlock = some wa.heap.size) :
    RzPost w base F v0 most B' br (w1.setCell ⟨F, 1, none⟩ v2) ∧ w1.heap[F]? = some (.cells #[.int .i64 (most : Int), v0, .bool br] 58 (0, 0)) := by
  have hlt := lt_of_block h.cell
  have hsa := hfa.size
  have hcb : w1.heap[F]? = some (.cells #[.int .i64 (most : Int), v0, .bool br] 58 (0, 0)) := by
    rw [hg.block F (by omega) (fun e => h.nf e.symm), hfa.block F hlt (fun h => h)]
    exact h.cell
  have hne2 : v2.ownBlock ≠ some F := by
    intro e
    rcases hat with h' | h'
    · exact h.nf (h' ▸ e)
    · rw [h'] at e; cases e; omega
  refine ⟨⟨v2, ⟨mid_stored hcb, hown.fr (fr_set w1 F 1 v2) (fun k hk e => hne2 (by rw [← e]; exact hk)), hne2, h.base⟩, ?_, Nw.of hat hsa⟩, hcb⟩
  refine Fr.setCell ?_ (fun _ => Or.inl rfl) _
  exact Fr.grown (hfa.mono (fun _ _ h => h.elim)) hg (fun k hk e => Or.inr e)

set_option maxHeartbeats 800000 in
set_option maxRecDepth 100000 in
theorem rfeed_any (base F : Nat) (v : Value) (most : Nat) (B : List Nat) (br : Bool) (pv : Value) (zs : List Nat) (w : World) (h : Rz w base F v most B br) (hz : Bs w pv zs) (hb : base ≤ w.heap.size) (hl : B.length + zs.length ≤ 140737488355328) :
    Calls Try.prog 24 #[.pointer (some ⟨F, 0, none⟩), pv] w fun e w' => e = .returned (.tuple #[]) ∧ RzPost w base F v most (if br then B else B ++ zs) br w' := by
  obtain ⟨i0, hi, hz0, hz1, hz2⟩ := info_parts Try.info5
  obtain ⟨ao, cap, rfl, _, _⟩ := h.own.shape
  obtain ⟨c0, c1, c2⟩ := three_cells h.cell
  have f1 := free_of h.cell 1
  have HZ := hid hz
  obtain ⟨pao, pcap, rfl⟩ := slice_shape hz
  clear hz
  cases br
  · have H := hid h
    have ho := hid h.own
    clear h
    go_enter Try.func24, Try.ntmps24
    go_wp2_with (at_builtin; go_must (refine wpList_append_of _ rfl (.tmp 13) (.tmp 14) 27 rfl base 5 i0 Try.underlying27 hi hz0 hz1 hz2 _ B rfl ho.out _ zs rfl HZ.out hl hb ?_))
    intro v2 w1 hown hgrow hat
    have S := rz_step H.out (Fr.refl w _) hown hgrow hat
    obtain ⟨ao2, cap2, rfl, _, _⟩ := hown.shape
    obtain ⟨d0, d1, d2⟩ := three_cells S.2
    have e1 := free_of S.2 1
    have HS := hid S.1
    rw [List.length_append] at HS
    clear S hown hgrow hat ho c0 c1 c2 f1
    go_wp2
    go_end0
    exact ⟨rfl, HS.out⟩
  · have HS : Hid (RzPost w base F (.slice ao B.length cap) most B true w) := ⟨_, h, Fr.refl _ _, Nw.refl _ _⟩
    clear h
    go_enter Try.func24, Try.ntmps24
    go_wp2
    go_end0
    exact ⟨rfl, HS.out⟩
end Go.Proofs.Ytdhobmnljniccaa
