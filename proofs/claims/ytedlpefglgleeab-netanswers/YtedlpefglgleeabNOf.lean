/- A row of bytes that is cut from the left and appended to. Nothing of the program is used here. -/
import Derived.Test.YtedlpefglgleeabXPure
import Derived.Deep.AppendSrc
import Derived.Deep.Upon
import Derived.Deep.RegionLaw
import Derived.Laws.AppendOwnNone
namespace Go.Proofs.Ytedlpefglgleeab
open Go.RowKit

theorem info_parts {o : Option TypeInfo} {z : Value} {n b : Nat} (h : o.map (fun i => (i.zero, i.size, i.bytes)) = some (some z, n, b)) : ∃ i, o = some i ∧ i.zero = some z ∧ i.size = n ∧ i.bytes = b := by
  obtain ⟨i, hi, hx⟩ := Option.map_eq_some_iff.1 h
  simp only [Prod.mk.injEq] at hx
  exact ⟨i, hi, hx.1, hx.2.1, hx.2.2⟩
theorem setCells_fr (g : Nat) : ∀ (vs : List Value) (o : Nat) (w : World), Fr w (w.setCells g o vs) (fun k => k = g)
  | [], _, _ => Fr.refl _ _
  | v :: r, o, w => (set_fr w g o v).trans (setCells_fr g r (o + 1) _)

theorem heap_setCells (g : Nat) (e : TypeId) : ∀ (vs : List Value) (o : Nat) (w : World) (cur : Array Value), w.heap[g]? = some (.cells cur e (0, 0)) → o + vs.length ≤ cur.size →
    ∃ cur' : Array Value, (w.setCells g o vs).heap[g]? = some (.cells cur' e (0, 0)) ∧ cur'.size = cur.size ∧ (∀ j, j < vs.length → cur'[o + j]? = vs[j]?) ∧ (∀ j, j < o ∨ o + vs.length ≤ j → cur'[j]? = cur[j]?)
  | [], _, _, cur, h, _ => ⟨cur, h, rfl, fun j hj => by simp at hj, fun _ _ => rfl⟩
  | v :: r, o, w, cur, h, hl => by
    have h1 := heap_setCell_same w g o cur e v h
    rw [List.length_cons] at hl
    obtain ⟨cur', e1, e2, e3, e4⟩ := heap_setCells g e r (o + 1) _ _ h1 (by simp; omega)
    refine ⟨cur', e1, by simpa using e2, fun j hj => ?_, fun j hj => ?_⟩
    · match j with
      | 0 =>
        rw [Nat.add_zero, e4 o (Or.inl (by omega))]
        have ho : o < cur.size := by omega
        simp [ho]
      | j + 1 =>
        rw [List.length_cons] at hj
        have := e3 j (by omega)
        rw [show o + (j + 1) = o + 1 + j from by omega, this]
        simp
    · rw [List.length_cons] at hj
      rw [e4 j (by omega)]
      have hne : o ≠ j := by omega
      simp [hne]

/-- Bytes in a row that the call owns, from some place on. -/
def Of (e : TypeId) (w : World) (base : Nat) (v : Value) (xs : List Nat) : Prop :=
  ∃ (ao : Option Addr) (b off cap : Nat), v = .slice ao xs.length cap ∧ xs.length ≤ cap ∧ cap ≤ maxLen ∧ (∀ a, ao = some a → base ≤ a.block ∧ a.block < w.heap.size) ∧
    (0 < cap → ao = some ⟨b, off, none⟩ ∧ ∃ cur : Array Value, w.heap[b]? = some (.cells cur e (0, 0)) ∧ off + cap ≤ cur.size ∧ ∀ j, j < xs.length → cur[off + j]? = some (.int .u8 ((xs.getD j 0 : Nat) : Int)))

theorem Of.nil (e : TypeId) (w : World) (base : Nat) : Of e w base (.slice none 0 0) [] := ⟨none, 0, 0, 0, rfl, by simp, by unfold maxLen; omega, by simp, fun h => by omega⟩
theorem Of.lt {e : TypeId} {w : World} {base : Nat} {v : Value} {xs : List Nat} (h : Of e w base v xs) {k : Nat} (hk : v.ownBlock = some k) : base ≤ k ∧ k < w.heap.size := by
  obtain ⟨ao, b, off, cap, rfl, _, _, h, _⟩ := h
  cases ao with
  | none => simp [Value.ownBlock] at hk
  | some a =>
    simp [Value.ownBlock] at hk
    subst hk
    exact h a rfl
theorem Of.fr {e : TypeId} {w w' : World} {S : Nat → Prop} {base : Nat} {v : Value} {xs : List Nat} (h : Of e w base v xs) (hf : Fr w w' S) (hv : ∀ k, v.ownBlock = some k → ¬ S k) : Of e w' base v xs := by
  obtain ⟨ao, b, off, cap, rfl, h1, h2, h3, h4⟩ := h
  refine ⟨ao, b, off, cap, rfl, h1, h2, fun a ha => ⟨(h3 a ha).1, Nat.lt_of_lt_of_le (h3 a ha).2 hf.size⟩, fun hc => ?_⟩
  obtain ⟨rfl, cur, hg, h5, h6⟩ := h4 hc
  exact ⟨rfl, cur, by rw [hf.block b (lt_of_block hg) (hv b rfl)]; exact hg, h5, h6⟩
theorem Of.drewN {e : TypeId} {w : World} {base : Nat} {v : Value} {xs : List Nat} (h : Of e w base v xs) (n : Nat) : Of e (w.drewN n) base v xs := h.fr (S := fun _ => False) ((Fr.refl _ _).drewN n) (fun _ _ h => h)
theorem Of.ne {e t : TypeId} {w : World} {base : Nat} {v : Value} {xs : List Nat} {B : Nat} {cs : Array Value} {z : Nat × Nat} (h : Of e w base v xs) (hB : w.heap[B]? = some (.cells cs t z)) (hte : t ≠ e) (hx : xs ≠ []) : v.ownBlock ≠ some B := by
  obtain ⟨ao, b, off, cap, rfl, h1, h2, h3, h4⟩ := h
  have h0 : 0 < xs.length := List.length_pos_iff.2 hx
  obtain ⟨rfl, cur, hg, _⟩ := h4 (by omega)
  intro k
  simp [Value.ownBlock] at k
  subst k
  rw [hB] at hg
  simp at hg
  exact hte hg.2.1
theorem Of.cells {e : TypeId} {w : World} {base b off n cap : Nat} {xs : List Nat} (h : Of e w base (.slice (some ⟨b, off, none⟩) n cap) xs) (j : Nat) (hj : j < xs.length) : w.cell? ⟨b, off + j, none⟩ = some (.int .u8 ((xs.getD j 0 : Nat) : Int)) := by
  obtain ⟨ao, b', off', cap', e1, h1, h2, h3, h4⟩ := h
  obtain ⟨e2, cur, hg, _, h6⟩ := h4 (by omega)
  simp only [Value.slice.injEq] at e1
  rw [e2] at e1
  simp only [Option.some.injEq, Addr.mk.injEq] at e1
  obtain ⟨⟨rfl, rfl, _⟩, _, rfl⟩ := e1
  rw [cell_of_row w b (off + j) _ _ (0, 0) hg]
  exact h6 j hj
theorem Of.addr {e : TypeId} {w : World} {base : Nat} {ao : Option Addr} {n cap : Nat} {xs : List Nat} (h : Of e w base (.slice ao n cap) xs) (h1 : 1 ≤ xs.length) : ∃ b off, ao = some ⟨b, off, none⟩ := by
  obtain ⟨ao', b', off', cap', e1, h1, h2, h3, h4⟩ := h
  simp only [Value.slice.injEq] at e1
  exact ⟨b', off', by rw [e1.1]; exact (h4 (by omega)).1⟩
theorem Of.shape {e : TypeId} {w : World} {base : Nat} {v : Value} {xs : List Nat} (h : Of e w base v xs) : ∃ ao cap, v = .slice ao xs.length cap ∧ xs.length ≤ cap ∧ cap ≤ maxLen := by
  obtain ⟨ao, _, _, cap, e1, h1, h2, _⟩ := h
  exact ⟨ao, cap, e1, h1, h2⟩
/-- The rest, as a slice of it. -/
theorem Of.drop {e : TypeId} {w : World} {base b off n cap : Nat} {xs : List Nat} (h : Of e w base (.slice (some ⟨b, off, none⟩) n cap) xs) (q : Nat) (hq : q ≤ xs.length) (hc : ¬ cap = q) : Of e w base (.slice (some ⟨b, off + q, none⟩) (xs.length - q) (cap - q)) (xs.drop q) := by
  obtain ⟨ao, b', off', cap', e1, h1, h2, h3, h4⟩ := h
  simp only [Value.slice.injEq] at e1
  obtain ⟨rfl, _, rfl⟩ := e1
  obtain ⟨e2, cur, hg, h5, h6⟩ := h4 (by omega)
  simp only [Option.some.injEq, Addr.mk.injEq] at e2
  obtain ⟨rfl, rfl, _⟩ := e2
  refine ⟨_, b, off + q, cap - q, by rw [List.length_drop], by rw [List.length_drop]; omega, by omega, fun a ha => ?_, fun _ => ⟨rfl, cur, hg, by omega, fun j hj => ?_⟩⟩
  · cases ha
    exact h3 ⟨b, off, none⟩ rfl
  · rw [List.length_drop] at hj
    rw [show off + q + j = off + (q + j) from by omega, h6 (q + j) (by omega)]
    simp [List.getD]
theorem Of.dropAll {e : TypeId} {w : World} {base n cap : Nat} {ao : Option Addr} {xs : List Nat} (h : Of e w base (.slice ao n cap) xs) (q : Nat) (hq : xs.length ≤ q) : Of e w base (.slice ao 0 0) (xs.drop q) := by
  obtain ⟨ao', b', off', cap', e1, h1, h2, h3, h4⟩ := h
  simp only [Value.slice.injEq] at e1
  obtain ⟨rfl, _, rfl⟩ := e1
  rw [List.drop_eq_nil_of_le hq]
  exact ⟨ao, b', off', 0, rfl, by simp, by unfold maxLen; omega, h3, fun h => by omega⟩
theorem Of.bs {e : TypeId} {w : World} {base b off n cap : Nat} {xs : List Nat} (h : Of e w base (.slice (some ⟨b, off, none⟩) n cap) xs) (q K c : Nat) (hq : q + K ≤ xs.length) : Bs w (.slice (some ⟨b, off + q, none⟩) K c) ((xs.drop q).take K) := by
  have hlen : ((xs.drop q).take K).length = K := by simp; omega
  refine Or.inr ⟨⟨b, off + q, none⟩, c, by rw [hlen], fun j u hu => ?_⟩
  have hj : j < K := by
    rcases Nat.lt_or_ge j K with h | h
    · exact h
    · rw [List.getElem?_eq_none (by rw [by8_length, hlen]; exact h)] at hu
      cases hu
  rw [Addr.add_lit, show off + q + j = off + (q + j) from by omega, h.cells (q + j) (by omega), ← hu, by8_get _ j (by omega)]
  simp [List.getD, hj]

theorem bs_src {P : Program} {w : World} {t e' : TypeId} (hk : P.underlying t = some (.slice e')) {v : Value} {zs : List Nat} (h : Bs w v zs) : Src P 1 t v zs.length (by8 zs) w := by
  rcases h with ⟨rfl, rfl⟩ | ⟨a, cap, rfl, h⟩
  · exact Src.ofNil w hk 0
  · exact Src.ofSlice w hk a zs.length cap (by8 zs) (by rw [by8_length, Nat.mul_one]) h (by8_one zs)

theorem run_append_of {P : Program} (w : World) (base : Nat) (t ty e : TypeId) (i : TypeInfo) (ht : P.underlying t = some (.slice e)) (hi : P.info? e = some i) (hz : i.zero = some (.int .u8 0)) (hsize : i.size = 1) (hby : i.bytes = 1)
    (v : Value) (xs : List Nat) (h : Of e w base v xs) (x : Value) (zs : List Nat) (hs : Src P 1 t x zs.length (by8 zs) w) (hb : xs.length + zs.length ≤ 140737488355328) (hbase : base ≤ w.heap.size) :
    ∃ v' w', (Builtin.append_ #[t, t] ty #[v, x]).run P w = .ok v' w' ∧ Of e w' base v' (xs ++ zs) ∧ w.grownBy w' v.ownBlock ∧ (v'.ownBlock = v.ownBlock ∨ v'.ownBlock = some w.heap.size) := by
  have hs1 : Src P i.size t x zs.length (by8 zs) w := by rw [hsize]; exact hs
  obtain ⟨ao, b, off, cap, rfl, hle, hcm, hst, hcap⟩ := h
  by_cases hfit : xs.length + zs.length ≤ cap
  · rcases Nat.eq_zero_or_pos cap with h0 | hc
    · subst h0
      obtain rfl : zs = [] := List.eq_nil_of_length_eq_zero (by omega)
      obtain rfl : xs = [] := List.eq_nil_of_length_eq_zero (by omega)
      exact ⟨_, w, run_append_nothing (P := P) w t t ty e i ht hi ao 0 0 (Nat.le_refl _) x hs1, ⟨ao, b, off, 0, rfl, by simp, hcm, hst, fun h => by omega⟩, ⟨rfl, rfl, rfl, Nat.le_refl _, fun _ _ _ => rfl⟩, Or.inl rfl⟩
    · obtain ⟨rfl, cur, hg, hfc, hcs⟩ := hcap hc
      have hcell : ∀ j, w.cell? ⟨b, j, none⟩ = cur[j]? := fun j => cell_of_row w b j cur e (0, 0) hg
      have hr := run_append_room_src (P := P) w t t ty e i ht hi b off xs.length cap x zs.length (by8 zs) hs1 hfit
        (fun j hj => by rw [by8_length] at hj; rw [hsize, Nat.mul_one, hcell, Array.getElem?_eq_getElem (by omega)]; rfl)
        (fun j hj => free_of hg _)
      rw [hsize, Nat.mul_one] at hr
      obtain ⟨cur', k1, k2, k3, k4⟩ := heap_setCells b e (by8 zs) (off + xs.length) w cur hg (by rw [by8_length]; omega)
      have hfr := setCells_fr b (by8 zs) (off + xs.length) w
      refine ⟨_, _, hr, ⟨some ⟨b, off, none⟩, b, off, cap, by rw [List.length_append], by rw [List.length_append]; exact hfit, hcm, fun a ha => ⟨(hst a ha).1, Nat.lt_of_lt_of_le (hst a ha).2 hfr.size⟩, fun _ => ⟨rfl, cur', k1, by omega, fun j hj => ?_⟩⟩,
        ⟨hfr.os, hfr.tape, hfr.output, hfr.size, fun k hk hn => hfr.block k hk (fun e => hn (by rw [e]; rfl))⟩, Or.inl rfl⟩
      rw [List.length_append] at hj
      by_cases hj2 : j < xs.length
      · rw [k4 (off + j) (Or.inl (by omega)), hcs j hj2]
        simp only [List.getD, List.getElem?_append_left hj2]
      · have := k3 (j - xs.length) (by rw [by8_length]; omega)
        rw [show off + xs.length + (j - xs.length) = off + j from by omega] at this
        rw [this, by8_get zs (j - xs.length) (by omega)]
        simp [List.getD, List.getElem?_append_right (show xs.length ≤ j by omega)]
  · have hold : (Builtin.firstCells i.size xs.length (.slice ao xs.length cap)).run P w.drew = .ok (by8 xs).toArray w.drew := by
      rcases Nat.eq_zero_or_pos cap with h0 | hc
      · have hx : xs = [] := List.eq_nil_of_length_eq_zero (by omega)
        subst hx
        cases ao with
        | none => exact run_firstCells_none w.drew i.size 0 0 cap
        | some a' => exact run_firstCells_some w.drew i.size 0 a' 0 cap [] (by simp) (by intro _ _ h'; simp at h')
      · obtain ⟨rfl, cur, hg, hfc, hcs⟩ := hcap hc
        refine run_firstCells_some w.drew i.size xs.length ⟨b, off, none⟩ xs.length cap (by8 xs) (by rw [hsize, Nat.mul_one, by8_length]) (fun j u hu => ?_)
        have hj : j < xs.length := by
          rcases Nat.lt_or_ge j xs.length with h | h
          · exact h
          · rw [List.getElem?_eq_none (by rw [by8_length]; exact h)] at hu
            cases hu
        rw [Addr.add_lit, ← hu, by8_get xs j hj]
        exact (cell_of_row w b (off + j) cur e (0, 0) hg).trans (hcs j hj)
    have hr := run_append_grow_src (P := P) w t t ty e i (.int .u8 0) ht hi hz ao xs.length cap (by8 xs) hold x zs.length (by8 zs) hs1 (by omega) (by omega) (by rw [hby]; exact growslice_fits (by omega) (by omega))
    have hge := grownCap_ge w (xs.length + zs.length) cap e
    have hgm := grownCap_le_maxLen w (xs.length + zs.length) cap e (by unfold maxLen; omega)
    refine ⟨_, _, hr, ⟨some ⟨w.heap.size, 0, none⟩, w.heap.size, 0, _, by rw [List.length_append], by rw [List.length_append]; exact hge, hgm, fun a ha => ?_, fun _ => ⟨rfl, _, heap_alloc_new w.drew _, ?_, fun j hj => ?_⟩⟩,
      ⟨rfl, rfl, rfl, by simp, fun k hk _ => Below.heap_alloc w.drew _ k hk⟩, Or.inr rfl⟩
    · cases ha
      exact ⟨hbase, by simp⟩
    · rw [← by8_append, Array.size_append, size_zeroCells]
      simp [by8_length, Value.cells]
      omega
    · rw [Nat.zero_add, ← by8_append, Array.getElem?_append_left (by simpa [by8_length] using hj), List.getElem?_toArray]
      exact by8_get _ j hj

theorem wpList_append_of {P : Program} (w : World) {ops : Array Oper} {rest : List Oper} {o : Oper} {a : Act} {Q : Exit → Act → World → Prop} (hgd : o.guard = none) (s x : Operand) (t : TypeId)
    (ho : o.op = .call { callee := .builtin .append, args := #[s, x], argTypes := #[t, t] })
    (base : Nat) (e : TypeId) (i : TypeInfo) (ht : P.underlying t = some (.slice e)) (hi : P.info? e = some i) (hz : i.zero = some (.int .u8 0)) (hsize : i.size = 1) (hby : i.bytes = 1)
    (v : Value) (xs : List Nat) (hv : a.eval s = v) (hown : Of e w base v xs) (pv : Value) (zs : List Nat) (hx : a.eval x = pv) (hp : Bs w pv zs) (hb : xs.length + zs.length ≤ 140737488355328) (hbase : base ≤ w.heap.size)
    (h : ∀ v' w', Of e w' base v' (xs ++ zs) → w.grownBy w' v.ownBlock → (v'.ownBlock = v.ownBlock ∨ v'.ownBlock = some w.heap.size) → wpList P ops Q rest (a.put o.dst v') w') : wpList P ops Q (o :: rest) a w := by
  refine wpList_plain hgd fun K hK => ?_
  obtain ⟨v', w', hr, h2, h3, h4⟩ := run_append_of (P := P) w base t o.type e i ht hi hz hsize hby v xs hown pv zs (bs_src ht hp) hb hbase
  unfold Oper.wp execOp
  simp only [ho, resolve, invoke, builtin, Sem.run_bind, Sem.run_pure, Result.andThen_ok, List.map_toArray, List.map_cons, List.map_nil, hv, hx, hr]
  exact hK _ _ (h v' w' h2 h3 h4)

/-- Bytes of one's own: nil where there are none. -/
def Rw (w : World) (lo : Nat) (e : TypeId) (v : Value) (xs : List Nat) : Prop := (xs = [] ∧ v = .slice none 0 0) ∨ (xs ≠ [] ∧ Of e w lo v xs)
theorem Rw.nil (w : World) (lo : Nat) (e : TypeId) : Rw w lo e (.slice none 0 0) [] := Or.inl ⟨rfl, rfl⟩
theorem Rw.of {w : World} {lo : Nat} {e : TypeId} {v : Value} {xs : List Nat} (h : Rw w lo e v xs) : Of e w lo v xs := by
  rcases h with ⟨rfl, rfl⟩ | ⟨_, h⟩
  · exact Of.nil e w lo
  · exact h
theorem Rw.fr {w w' : World} {S : Nat → Prop} {lo : Nat} {e : TypeId} {v : Value} {xs : List Nat} (h : Rw w lo e v xs) (hf : Fr w w' S) (hv : ∀ k, v.ownBlock = some k → ¬ S k) : Rw w' lo e v xs := by
  rcases h with h | ⟨h1, h⟩
  · exact Or.inl h
  · exact Or.inr ⟨h1, h.fr hf hv⟩
theorem Rw.lt {w : World} {lo : Nat} {e : TypeId} {v : Value} {xs : List Nat} (h : Rw w lo e v xs) {k : Nat} (hk : v.ownBlock = some k) : lo ≤ k ∧ k < w.heap.size := h.of.lt hk
theorem Rw.ne {w : World} {lo : Nat} {e t : TypeId} {v : Value} {xs : List Nat} {B : Nat} {cs : Array Value} {z : Nat × Nat} (h : Rw w lo e v xs) (hB : w.heap[B]? = some (.cells cs t z)) (hte : t ≠ e) : v.ownBlock ≠ some B := by
  rcases h with ⟨_, rfl⟩ | ⟨h1, h⟩
  · simp [Value.ownBlock]
  · exact h.ne hB hte h1
theorem Rw.shape {w : World} {lo : Nat} {e : TypeId} {v : Value} {xs : List Nat} (h : Rw w lo e v xs) : ∃ ao cap, v = .slice ao xs.length cap ∧ xs.length ≤ cap ∧ cap ≤ maxLen := h.of.shape
theorem Rw.bs {w : World} {lo : Nat} {e : TypeId} {ao : Option Addr} {n cap : Nat} {xs : List Nat} (h : Rw w lo e (.slice ao n cap) xs) (m : Nat) (hm : m ≤ xs.length) : ∃ ao' cap', Value.slice ao m cap = .slice ao' m cap' ∧ Bs w (.slice ao m cap) (xs.take m) := by
  refine ⟨ao, cap, rfl, ?_⟩
  rcases h with ⟨rfl, e⟩ | ⟨h1, h⟩
  · simp only [Value.slice.injEq] at e
    obtain ⟨rfl, rfl, rfl⟩ := e
    simp at hm
    subst hm
    exact Or.inl ⟨rfl, rfl⟩
  · obtain ⟨b, off, rfl⟩ := h.addr (List.length_pos_iff.2 h1)
    have := h.bs 0 m cap (by omega)
    simpa using this
theorem of_rw {w : World} {lo : Nat} {e : TypeId} {v : Value} {xs : List Nat} (h : Of e w lo v xs) (hx : xs ≠ []) : Rw w lo e v xs := Or.inr ⟨hx, h⟩
/-- append at an operation. -/
theorem wp_append_of {P : Program} (w : World) {o : Oper} {a : Act} {K : Act → World → Prop} {Q : Exit → Act → World → Prop} (s x : Operand) (t : TypeId)
    (ho : o.op = .call { callee := .builtin .append, args := #[s, x], argTypes := #[t, t] })
    (base : Nat) (e : TypeId) (i : TypeInfo) (ht : P.underlying t = some (.slice e)) (hi : P.info? e = some i) (hz : i.zero = some (.int .u8 0)) (hsize : i.size = 1) (hby : i.bytes = 1)
    (v : Value) (xs : List Nat) (hv : a.eval s = v) (hown : Rw w base e v xs) (pv : Value) (zs : List Nat) (hx : a.eval x = pv) (hp : Bs w pv zs) (hb : xs.length + zs.length ≤ 140737488355328) (hbase : base ≤ w.heap.size) (n' : Nat) (hn' : xs.length + zs.length = n')
    (h : ∀ ao cap w', Hid (Rw w' base e (.slice ao n' cap) (xs ++ zs)) → Hid (Fr w w' (fun k => v.ownBlock = some k)) → Hid (Nw w v (.slice ao n' cap)) → K (a.put o.dst (.slice ao n' cap)) w') : o.wp P a w K Q := by
  obtain ⟨v', w', hr, h2, h3, h4⟩ := run_append_of (P := P) w base t o.type e i ht hi hz hsize hby v xs hown.of pv zs (bs_src ht hp) hb hbase
  have h2' : Rw w' base e v' (xs ++ zs) := by
    by_cases hx0 : xs ++ zs = []
    · obtain ⟨hx1, hz1⟩ := List.append_eq_nil_iff.1 hx0
      subst hx1 hz1
      have hv0 : v = .slice none 0 0 := by
        rcases hown with ⟨_, h⟩ | ⟨h, _⟩
        · exact h
        · exact absurd rfl h
      subst hv0
      have hr2 := run_append_nothing (P := P) w t t o.type e i ht hi none 0 0 (Nat.le_refl _) pv (by rw [hsize]; exact bs_src ht hp)
      rw [hr] at hr2
      simp only [Result.ok.injEq] at hr2
      exact Or.inl ⟨rfl, hr2.1⟩
    · exact Or.inr ⟨hx0, h2⟩
  obtain ⟨ao, cap, hv', _, _⟩ := h2'.shape
  rw [List.length_append, hn'] at hv'
  subst hv'
  unfold Oper.wp execOp
  simp only [ho, resolve, invoke, builtin, Sem.run_bind, Sem.run_pure, Result.andThen_ok, List.map_toArray, List.map_cons, List.map_nil, hv, hx, hr]
  exact h ao cap w' h2' (Fr.grown (Fr.refl w _) h3 (fun k _ e => e)) (Nw.of h4 (Nat.le_refl _))
/-- The same as a step of a region that draws. -/
theorem step_append_of {P : Program} {w : World} {ops : Array Oper} {o : Oper} {a : Act} {K : Act → World → Prop} {Q : Exit → Act → World → Prop} {E : Prop} (hgd : o.guard = none) (s x : Operand) (t : TypeId)
    (ho : o.op = .call { callee := .builtin .append, args := #[s, x], argTypes := #[t, t] })
    (base : Nat) (e : TypeId) (i : TypeInfo) (ht : P.underlying t = some (.slice e)) (hi : P.info? e = some i) (hz : i.zero = some (.int .u8 0)) (hsize : i.size = 1) (hby : i.bytes = 1)
    (v : Value) (xs : List Nat) (hv : a.eval s = v) (hown : Rw w base e v xs) (pv : Value) (zs : List Nat) (hx : a.eval x = pv) (hp : Bs w pv zs) (hb : xs.length + zs.length ≤ 140737488355328) (hbase : base ≤ w.heap.size) (n' : Nat) (hn' : xs.length + zs.length = n')
    (h : ∀ ao cap w', Hid (Rw w' base e (.slice ao n' cap) (xs ++ zs)) → Hid (Fr w w' (fun k => v.ownBlock = some k)) → Hid (Nw w v (.slice ao n' cap)) → K (a.put o.dst (.slice ao n' cap)) w') : if Region.wanted o (yielded ops a.tmps) = true then Oper.wp P o a w K Q else E := by
  have hw : Region.wanted o (yielded ops a.tmps) = true := by simp [Region.wanted, hgd]
  rw [if_pos hw]
  exact wp_append_of w s x t ho base e i ht hi hz hsize hby v xs hv hown pv zs hx hp hb hbase n' hn' h
end Go.Proofs.Ytedlpefglgleeab
