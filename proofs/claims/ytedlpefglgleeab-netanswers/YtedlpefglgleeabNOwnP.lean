/- NetOwn: bytes that were told may be written over: what stays. -/
import Derived.Test.YtedlpefglgleeabNArgs
import Derived.Test.YtedlpefglgleeabNPure3
namespace Go.Proofs.Ytedlpefglgleeab
open Go.RowKit

/-- append, and the elder blocks keep their size. -/
theorem run_append_of2 {P : Program} (w : World) (base : Nat) (t ty e : TypeId) (i : TypeInfo) (ht : P.underlying t = some (.slice e)) (hi : P.info? e = some i) (hz : i.zero = some (.int .u8 0)) (hsize : i.size = 1) (hby : i.bytes = 1)
    (v : Value) (xs : List Nat) (h : Of e w base v xs) (x : Value) (zs : List Nat) (hs : Src P 1 t x zs.length (by8 zs) w) (hb : xs.length + zs.length ≤ 140737488355328) (hbase : base ≤ w.heap.size) :
    ∃ v' w', (Builtin.append_ #[t, t] ty #[v, x]).run P w = .ok v' w' ∧ Of e w' base v' (xs ++ zs) ∧ w.grownBy w' v.ownBlock ∧ (v'.ownBlock = v.ownBlock ∨ v'.ownBlock = some w.heap.size) ∧ ∀ (q : Nat) (cur : Array Value), w.heap[q]? = some (Obj.cells cur e (0, 0)) → ∃ cur' : Array Value, w'.heap[q]? = some (Obj.cells cur' e (0, 0)) ∧ cur'.size = cur.size := by
  have hs1 : Src P i.size t x zs.length (by8 zs) w := by rw [hsize]; exact hs
  obtain ⟨ao, b, off, cap, rfl, hle, hcm, hst, hcap⟩ := h
  by_cases hfit : xs.length + zs.length ≤ cap
  · rcases Nat.eq_zero_or_pos cap with h0 | hc
    · subst h0
      obtain rfl : zs = [] := List.eq_nil_of_length_eq_zero (by omega)
      obtain rfl : xs = [] := List.eq_nil_of_length_eq_zero (by omega)
      exact ⟨_, w, run_append_nothing (P := P) w t t ty e i ht hi ao 0 0 (Nat.le_refl _) x hs1, ⟨ao, b, off, 0, rfl, by simp, hcm, hst, fun h => by omega⟩, ⟨rfl, rfl, rfl, Nat.le_refl _, fun _ _ _ => rfl⟩, Or.inl rfl, fun q cur h => ⟨cur, h, rfl⟩⟩
    · obtain ⟨rfl, cur, hg, hfc, hcs⟩ := hcap hc
      have hcell : ∀ j, w.cell? ⟨b, j, none⟩ = cur[j]? := fun j => cell_of_row w b j cur e (0, 0) hg
      have hr := run_append_room_src (P := P) w t t ty e i ht hi b off xs.length cap x zs.length (by8 zs) hs1 hfit
        (fun j hj => by rw [by8_length] at hj; rw [hsize, Nat.mul_one, hcell, Array.getElem?_eq_getElem (by omega)]; rfl)
        (fun j hj => free_of hg _)
      rw [hsize, Nat.mul_one] at hr
      obtain ⟨cur', k1, k2, k3, k4⟩ := heap_setCells b e (by8 zs) (off + xs.length) w cur hg (by rw [by8_length]; omega)
      have hfr := setCells_fr b (by8 zs) (off + xs.length) w
      refine ⟨_, _, hr, ⟨some ⟨b, off, none⟩, b, off, cap, by rw [List.length_append], by rw [List.length_append]; exact hfit, hcm, fun a ha => ⟨(hst a ha).1, Nat.lt_of_lt_of_le (hst a ha).2 hfr.size⟩, fun _ => ⟨rfl, cur', k1, by omega, fun j hj => ?_⟩⟩,
        ⟨hfr.os, hfr.tape, hfr.output, hfr.size, fun k hk hn => hfr.block k hk (fun e => hn (by rw [e]; rfl))⟩, Or.inl rfl, fun q c0 h => by
          by_cases hq : q = b
          · subst hq
            rw [hg] at h
            simp only [Option.some.injEq, Obj.cells.injEq, and_true] at h
            exact ⟨cur', k1, by rw [k2, h]⟩
          · exact ⟨c0, by rw [hfr.block q (lt_of_block h) hq]; exact h, rfl⟩⟩
      rw [List.length_append] at hj
      by_cases hj2 : j < xs.length
      · rw [k4 (off + j) (Or.inl (by omega)), hcs j hj2]
        simp only [List.getD, List.getElem?_append_left hj2]
      · have := k3 (j - xs.length) (by rw [by8_length]; omega)
        rw [show off + xs.length + (j - xs.length) = off + j from by omega] at this
        rw [this, by8_get zs (j - xs.length) (by omega)]
        simp [List.getD, List.getElem?_append_right (show xs.length ≤ j by omega)]
  · have hold : (Builtin.firstCells i.size xs.length (.slice ao xs.length cap)).run P w.drew = .ok (by8 xs).toArray w.drew := by
      rcases Nat.eq_zero_or_pos cap with h0 | hc
      · have hx : xs = [] := List.eq_nil_of_length_eq_zero (by omega)
        subst hx
        cases ao with
        | none => exact run_firstCells_none w.drew i.size 0 0 cap
        | some a' => exact run_firstCells_some w.drew i.size 0 a' 0 cap [] (by simp) (by intro _ _ h'; simp at h')
      · obtain ⟨rfl, cur, hg, hfc, hcs⟩ := hcap hc
        refine run_firstCells_some w.drew i.size xs.length ⟨b, off, none⟩ xs.length cap (by8 xs) (by rw [hsize, Nat.mul_one, by8_length]) (fun j u hu => ?_)
        have hj : j < xs.length := by
          rcases Nat.lt_or_ge j xs.length with h | h
          · exact h
          · rw [List.getElem?_eq_none (by rw [by8_length]; exact h)] at hu
            cases hu
        rw [Addr.add_lit, ← hu, by8_get xs j hj]
        exact (cell_of_row w b (off + j) cur e (0, 0) hg).trans (hcs j hj)
    have hr := run_append_grow_src (P := P) w t t ty e i (.int .u8 0) ht hi hz ao xs.length cap (by8 xs) hold x zs.length (by8 zs) hs1 (by omega) (by omega) (by rw [hby]; exact growslice_fits (by omega) (by omega))
    have hge := grownCap_ge w (xs.length + zs.length) cap e
    have hgm := grownCap_le_maxLen w (xs.length + zs.length) cap e (by unfold maxLen; omega)
    refine ⟨_, _, hr, ⟨some ⟨w.heap.size, 0, none⟩, w.heap.size, 0, _, by rw [List.length_append], by rw [List.length_append]; exact hge, hgm, fun a ha => ?_, fun _ => ⟨rfl, _, heap_alloc_new w.drew _, ?_, fun j hj => ?_⟩⟩,
      ⟨rfl, rfl, rfl, by simp, fun k hk _ => Below.heap_alloc w.drew _ k hk⟩, Or.inr rfl, fun q c0 h => ⟨c0, (Below.heap_alloc w.drew _ q (lt_of_block (w := w) h)).trans h, rfl⟩⟩
    · cases ha
      exact ⟨hbase, by simp⟩
    · rw [← by8_append, Array.size_append, size_zeroCells]
      simp [by8_length, Value.cells]
      omega
    · rw [Nat.zero_add, ← by8_append, Array.getElem?_append_left (by simpa [by8_length] using hj), List.getElem?_toArray]
      exact by8_get _ j hj

/-- append in a plain region. -/
theorem wpl_rw2 {P : Program} (w : World) {ops : Array Oper} {rest : List Oper} {o : Oper} {a : Act} {Q : Exit → Act → World → Prop} (hgd : o.guard = none) (s x : Operand) (t : TypeId)
    (ho : o.op = .call { callee := .builtin .append, args := #[s, x], argTypes := #[t, t] })
    (base : Nat) (e : TypeId) (i : TypeInfo) (ht : P.underlying t = some (.slice e)) (hi : P.info? e = some i) (hz : i.zero = some (.int .u8 0)) (hsize : i.size = 1) (hby : i.bytes = 1)
    (v : Value) (xs : List Nat) (hv : a.eval s = v) (hown : Rw w base e v xs) (pv : Value) (zs : List Nat) (hx : a.eval x = pv) (hp : Bs w pv zs) (hb : xs.length + zs.length ≤ 140737488355328) (hbase : base ≤ w.heap.size) (n' : Nat) (hn' : xs.length + zs.length = n') (hz1 : zs ≠ [])
    (h : ∀ ao cap w', Hid (Rw w' base e (.slice ao n' cap) (xs ++ zs)) → Hid (Fr w w' (fun k => v.ownBlock = some k)) → Hid (Nw w v (.slice ao n' cap)) → Hid (∀ (q : Nat) (cur : Array Value), w.heap[q]? = some (Obj.cells cur e (0, 0)) → ∃ cur' : Array Value, w'.heap[q]? = some (Obj.cells cur' e (0, 0)) ∧ cur'.size = cur.size) → wpList P ops Q rest (a.put o.dst (.slice ao n' cap)) w') : wpList P ops Q (o :: rest) a w := by
  refine wpList_plain hgd fun K hK => ?_
  obtain ⟨v', w', hr, h2, h3, h4, h5⟩ := run_append_of2 (P := P) w base t o.type e i ht hi hz hsize hby v xs hown.of pv zs (bs_src ht hp) hb hbase
  have h2' : Rw w' base e v' (xs ++ zs) := Or.inr ⟨fun e => hz1 (List.append_eq_nil_iff.1 e).2, h2⟩
  obtain ⟨ao, cap, hv', _, _⟩ := h2'.shape
  rw [List.length_append, hn'] at hv'
  subst hv'
  unfold Oper.wp execOp
  simp only [ho, resolve, invoke, builtin, Sem.run_bind, Sem.run_pure, Result.andThen_ok, List.map_toArray, List.map_cons, List.map_nil, hv, hx, hr]
  exact hK _ _ (h ao cap w' h2' (Fr.grown (Fr.refl w _) h3 (fun k _ e => e)) (Nw.of h4 (Nat.le_refl _)) h5)
/-- A block of bytes, at least so many. -/
def Bk (w : World) (b n : Nat) : Prop := ∃ cs : Array Value, w.heap[b]? = some (.cells cs 5 (0, 0)) ∧ n ≤ cs.size
theorem Bk.at {w : World} {b n : Nat} (h : Bk w b n) (j : Nat) (hj : j < n) : (∃ u, w.cell? ⟨b, j, none⟩ = some u) ∧ w.frozen? ⟨b, j, none⟩ = false ∧ b < w.heap.size := by
  obtain ⟨cs, h1, h2⟩ := h
  refine ⟨⟨cs[j]'(by omega), ?_⟩, free_of h1 _, lt_of_block h1⟩
  rw [cell_of_row w b j _ _ (0, 0) h1]
  exact Array.getElem?_eq_getElem (by omega)
theorem Bk.set {w : World} {b n : Nat} (h : Bk w b n) (d j : Nat) (u : Value) : Bk (w.setCell ⟨d, j, none⟩ u) b n := by
  obtain ⟨cs, h1, h2⟩ := h
  by_cases hd : d = b
  · subst hd
    exact ⟨_, heap_setCell_same w d j _ _ _ h1, by simpa using h2⟩
  · exact ⟨cs, by rw [(set_fr w d j u).block b (lt_of_block h1) (fun e => hd e.symm)]; exact h1, h2⟩
theorem Bk.fr {w w' : World} {S : Nat → Prop} {b n : Nat} (h : Bk w b n) (hf : Fr w w' S) (hS : ¬ S b) : Bk w' b n := by
  obtain ⟨cs, h1, h2⟩ := h
  exact ⟨cs, keep_block h1 hf hS, h2⟩
/-- A slice of one's own that is not empty, as a block. -/
theorem Rw.bk {w : World} {lo : Nat} {v : Value} {xs : List Nat} (h : Rw w lo 5 v xs) (hx : xs ≠ []) : ∃ b off cap, v = .slice (some ⟨b, off, none⟩) xs.length cap ∧ Bk w b (off + xs.length) := by
  rcases h with ⟨h0, _⟩ | ⟨_, ao, b, off, cap, e, h1, h2, h3, h4⟩
  · exact absurd h0 hx
  · have hp := List.length_pos_iff.2 hx
    obtain ⟨e2, cur, h5, h6, _⟩ := h4 (by omega)
    exact ⟨b, off, cap, by rw [e, e2], cur, h5, by omega⟩
/-- Two nets, a row of one's own, and blocks that may be written over. -/
def N3 (w W : World) (A B : Nat) (s t : Np) (va : Value) (all : List Nat) (S : Nat → Prop) : Prop := ∃ O Q, NO w W A s O ∧ NO w W B t Q ∧ Fr w W (fun _ => False) ∧ (∀ k, O k → ¬ Q k) ∧ Rw W w.heap.size 5 va all ∧ (∀ k, va.ownBlock = some k → ¬ O k ∧ ¬ Q k ∧ ¬ S k) ∧ ∀ k, S k → ¬ O k ∧ ¬ Q k ∧ w.heap.size ≤ k ∧ k < W.heap.size
theorem N3.fr {w W : World} {A B : Nat} {s t : Np} {va : Value} {all : List Nat} {S : Nat → Prop} (h : N3 w W A B s t va all S) : Fr w W (fun _ => False) := by
  obtain ⟨O, Q, _, _, h, _⟩ := h
  exact h
theorem N3.row {w W : World} {A B : Nat} {s t : Np} {va : Value} {all : List Nat} {S : Nat → Prop} (h : N3 w W A B s t va all S) : Rw W w.heap.size 5 va all := by
  obtain ⟨O, Q, _, _, _, _, h, _⟩ := h
  exact h
theorem N3.step {w W W' : World} {A B : Nat} {s t : Np} {va : Value} {all : List Nat} {S : Nat → Prop} (h : N3 w W A B s t va all S) (hf : Fr W W' S) : N3 w W' A B s t va all S := by
  obtain ⟨O, Q, h1, h2, h3, h4, h5, h6, h7⟩ := h
  exact ⟨O, Q, h1.step hf (fun k ho hs => (h7 k hs).1 ho), h2.step hf (fun k ho hs => (h7 k hs).2.1 ho), h3.trans2 hf (fun k hk hs => by have := (h7 k hs).2.2.1; omega), h4, h5.fr hf (fun k hk hs => (h6 k hk).2.2 hs), h6, fun k hs => ⟨(h7 k hs).1, (h7 k hs).2.1, (h7 k hs).2.2.1, Nat.lt_of_lt_of_le (h7 k hs).2.2.2 hf.size⟩⟩
theorem N3.still {w W W' : World} {A B : Nat} {s t : Np} {va : Value} {all : List Nat} {S : Nat → Prop} (h : N3 w W A B s t va all S) (hf : Fr W W' (fun _ => False)) : N3 w W' A B s t va all S := h.step (hf.mono (fun _ _ h => h.elim))
/-- Other blocks: fewer, or new ones. -/
theorem N3.but {w W W' : World} {A B : Nat} {s t : Np} {va : Value} {all : List Nat} {S S' : Nat → Prop} (h : N3 w W A B s t va all S) (hf : Fr W W' S) (hS : ∀ k, S' k → (S k ∨ W.heap.size ≤ k) ∧ k < W'.heap.size) : N3 w W' A B s t va all S' := by
  obtain ⟨O, Q, h1, h2, h3, h4, h5, h6, h7⟩ := h.step hf
  obtain ⟨O2, Q2, k1, k2, k3, k4, k5, k6, k7⟩ := h
  have e1 := hf.size
  refine ⟨O2, Q2, k1.step hf (fun k ho hs => (k7 k hs).1 ho), k2.step hf (fun k ho hs => (k7 k hs).2.1 ho), h3, k4, h5, fun k hk => ⟨(k6 k hk).1, (k6 k hk).2.1, fun hs => ?_⟩, fun k hs => ?_⟩
  · rcases (hS k hs).1 with h8 | h8
    · exact (k6 k hk).2.2 h8
    · have := (k5.lt hk).2; omega
  · obtain ⟨h8, h9⟩ := hS k hs
    rcases h8 with h8 | h8
    · exact ⟨(k7 k h8).1, (k7 k h8).2.1, (k7 k h8).2.2.1, h9⟩
    · exact ⟨fun ho => by have := k1.lt ho; omega, fun ho => by have := k2.lt ho; omega, by have := k3.size; omega, h9⟩
/-- Behind a call of the first net: the blocks that may be written over are as they were. -/
theorem N3.left {w W W' : World} {A B : Nat} {s s' t : Np} {va : Value} {all : List Nat} {S : Nat → Prop} {O Q : Nat → Prop} (h1 : NO w W A s O) (h2 : NO w W B t Q) (h3 : Fr w W (fun _ => False)) (h4 : ∀ k, O k → ¬ Q k) (h5 : Rw W w.heap.size 5 va all) (h6 : ∀ k, va.ownBlock = some k → ¬ O k ∧ ¬ Q k ∧ ¬ S k) (h7 : ∀ k, S k → ¬ O k ∧ ¬ Q k ∧ w.heap.size ≤ k ∧ k < W.heap.size) (hA : NA w W W' A s' O) : N3 w W' A B s' t va all S ∧ ∀ k, S k → W'.heap[k]? = W.heap[k]? := by
  obtain ⟨O', k1, k2, k3⟩ := hA
  refine ⟨⟨O', Q, k1, h2.step k3 (fun k hq ho => h4 k ho hq), h3.trans2 k3 (fun k hk ho => by have := h1.lo k ho; omega), fun k ho hq => ?_, h5.fr k3 (fun k hk ho => (h6 k hk).1 ho), fun k hk => ⟨fun ho => ?_, (h6 k hk).2.1, (h6 k hk).2.2⟩, fun k hs => ⟨fun ho => ?_, (h7 k hs).2.1, (h7 k hs).2.2.1, Nat.lt_of_lt_of_le (h7 k hs).2.2.2 k3.size⟩⟩, fun k hs => k3.block k (h7 k hs).2.2.2 (h7 k hs).1⟩
  · rcases k2 k ho with h | h
    · exact h4 k h hq
    · have := h2.lt hq; omega
  · rcases k2 k ho with h | h
    · exact (h6 k hk).1 h
    · have := (h5.lt hk).2; omega
  · rcases k2 k ho with h | h
    · exact (h7 k hs).1 h
    · have := (h7 k hs).2.2.2; omega
theorem N3.swap {w W : World} {A B : Nat} {s t : Np} {va : Value} {all : List Nat} {S : Nat → Prop} (h : N3 w W A B s t va all S) : N3 w W B A t s va all S := by
  obtain ⟨O, Q, h1, h2, h3, h4, h5, h6, h7⟩ := h
  exact ⟨Q, O, h2, h1, h3, fun k hq ho => h4 k ho hq, h5, fun k hk => ⟨(h6 k hk).2.1, (h6 k hk).1, (h6 k hk).2.2⟩, fun k hs => ⟨(h7 k hs).2.1, (h7 k hs).1, (h7 k hs).2.2⟩⟩
theorem N3.start {w w1 w2 : World} {A B a b c d : Nat} {O Q : Nat → Prop} (h1 : NO w w1 A (np0 a b) O) (hf1 : Fr w w1 (fun _ => False)) (h2 : NO w w2 B (np0 c d) Q) (hq : ∀ k, Q k → w1.heap.size ≤ k) (hf2 : Fr w1 w2 (fun _ => False)) : N3 w w2 A B (np0 a b) (np0 c d) (.slice none 0 0) [] (fun _ => False) :=
  ⟨O, Q, h1.still hf2, h2, hf1.trans hf2, fun k ho hk => by have a1 := hq k hk; have a2 := h1.lt ho; omega, Rw.nil _ _ _, fun k hk => by simp [Value.ownBlock] at hk, fun k h => h.elim⟩
theorem N3.open {w W : World} {A B : Nat} {s t : Np} {va : Value} {all : List Nat} {S : Nat → Prop} (h : N3 w W A B s t va all S) : Calls Try.prog 7 #[.pointer (some ⟨A, 0, none⟩), .int .i64 1] W fun e w' => e = .returned (.int .i64 (openE s 1)) ∧ N3 w w' A B (openS s 1) t va all S := by
  obtain ⟨O, Q, h1, h2, h3, h4, h5, h6, h7⟩ := h
  exact (h1.open 1).mono fun e w' ⟨he, ha⟩ => ⟨he, (N3.left h1 h2 h3 h4 h5 h6 h7 ha).1⟩
theorem N3.send {w W : World} {A B : Nat} {s t : Np} {va : Value} {all : List Nat} {S : Nat → Prop} (h : N3 w W A B s t va all S) {ao : Option Addr} {n zcap : Nat} {zs : List Nat} (hn : n = zs.length) (hz : Bs W (.slice ao n zcap) zs) (hzc : n ≤ zcap) : Calls Try.prog 9 #[.pointer (some ⟨A, 0, none⟩), .int .i64 1, .slice ao n zcap] W fun e w' => e = .returned (.int .i64 (sendE s 1 zs)) ∧ N3 w w' A B (sendS s 1 zs) t va all S ∧ ∀ k, S k → w'.heap[k]? = W.heap[k]? := by
  obtain ⟨O, Q, h1, h2, h3, h4, h5, h6, h7⟩ := h
  exact (h1.send 1 hn hz hzc).mono fun e w' ⟨he, ha⟩ => ⟨he, N3.left h1 h2 h3 h4 h5 h6 h7 ha⟩
theorem N3.write {w W : World} {A B : Nat} {s t : Np} {va : Value} {all : List Nat} {S : Nat → Prop} (h : N3 w W A B s t va all S) {ao : Option Addr} {n zcap : Nat} {zs : List Nat} (hn : n = zs.length) (hz : Bs W (.slice ao n zcap) zs) (hzc : n ≤ zcap) : Calls Try.prog 11 #[.pointer (some ⟨A, 0, none⟩), .int .i64 1, .slice ao n zcap] W fun e w' => e = .returned (.tuple #[.int .i64 (writeK s 1 zs.length : Int), .int .i64 (useE s 1)]) ∧ N3 w w' A B (writeS s 1 zs) t va all S ∧ ∀ k, S k → w'.heap[k]? = W.heap[k]? := by
  obtain ⟨O, Q, h1, h2, h3, h4, h5, h6, h7⟩ := h
  exact (h1.write 1 hn hz hzc).mono fun e w' ⟨he, ha⟩ => ⟨he, N3.left h1 h2 h3 h4 h5 h6 h7 ha⟩
theorem N3.bring {w W : World} {A B : Nat} {s t : Np} {va : Value} {all : List Nat} {S : Nat → Prop} (h : N3 w W A B s t va all S) (hm : s.m ≤ 70368744177664) (most : Int) : Calls Try.prog 10 #[.pointer (some ⟨A, 0, none⟩), .int .i64 1, .int .i64 most] W fun e w' => e = .returned (.tuple #[.int .i64 (bringK s 1 most : Int), .int .i64 (findE s 1)]) ∧ N3 w w' A B (bringS s 1 most) t va all S ∧ ∀ k, S k → w'.heap[k]? = W.heap[k]? := by
  obtain ⟨O, Q, h1, h2, h3, h4, h5, h6, h7⟩ := h
  exact (h1.bring hm 1 most).mono fun e w' ⟨he, ha⟩ => ⟨he, N3.left h1 h2 h3 h4 h5 h6 h7 ha⟩
theorem N3.fetch {w W : World} {A B : Nat} {s t : Np} {va : Value} {all : List Nat} {S : Nat → Prop} (h : N3 w W A B s t va all S) (hm : s.m ≤ 70368744177664) (most : Int) : Calls Try.prog 12 #[.pointer (some ⟨A, 0, none⟩), .int .i64 1, .int .i64 most] W fun e w' => e = .returned (.tuple #[.int .i64 (fetchK s 1 most : Int), .int .i64 (findE s 1)]) ∧ N3 w w' A B (fetchS s 1 most) t va all S ∧ ∀ k, S k → w'.heap[k]? = W.heap[k]? := by
  obtain ⟨O, Q, h1, h2, h3, h4, h5, h6, h7⟩ := h
  exact (h1.fetch hm 1 most).mono fun e w' ⟨he, ha⟩ => ⟨he, N3.left h1 h2 h3 h4 h5 h6 h7 ha⟩
theorem N3.take {w W : World} {A B : Nat} {s t : Np} {va : Value} {all : List Nat} {S : Nat → Prop} (h : N3 w W A B s t va all S) : Calls Try.prog 18 #[.pointer (some ⟨A, 0, none⟩), .int .i64 1] W fun e w' => ∃ v, e = .returned (.tuple #[v, .int .i64 (useE s 1)]) ∧ Rw w' w.heap.size 5 v (takeB s 1) ∧ N3 w w' A B (takeS s 1) t va all (fun k => v.ownBlock = some k) := by
  obtain ⟨O, Q, h1, h2, h3, h4, h5, h6, h7⟩ := h
  refine (h1.take 1).mono fun e w' ⟨v, he, O', k1, k2, k3, k4, k5⟩ => ⟨v, he, k4, ?_⟩
  obtain ⟨⟨P1, P2, j1, j2, j3, j4, j5, j6, _⟩, _⟩ := N3.left h1 h2 h3 h4 h5 h6 h7 ⟨O', k1, k2, k3⟩
  refine ⟨O', Q, k1, h2.step k3 (fun k hq ho => h4 k ho hq), j3, fun k ho hq => ?_, j5, fun k hk => ⟨fun ho => ?_, (h6 k hk).2.1, fun hv => (h6 k hk).1 (k5 k hv).2⟩, fun k hv => ⟨(k5 k hv).1, fun hq => h4 k (k5 k hv).2 hq, (k4.lt hv).1, (k4.lt hv).2⟩⟩
  · rcases k2 k ho with h | h
    · exact h4 k h hq
    · have := h2.lt hq; omega
  · rcases k2 k ho with h | h
    · exact (h6 k hk).1 h
    · have := (h5.lt hk).2; omega
theorem N3.heard {w W : World} {A B : Nat} {s t : Np} {va : Value} {all : List Nat} {S : Nat → Prop} (h : N3 w W A B s t va all S) (hm : s.m ≤ 70368744177664) : Calls Try.prog 17 #[.pointer (some ⟨A, 0, none⟩), .int .i64 1] W fun e w' => ∃ u, e = .returned (.tuple #[u, .bool (heardN s 1)]) ∧ Rw w' w.heap.size 5 u (heardB s 1) ∧ N3 w w' A B s t va all (fun k => u.ownBlock = some k) ∧ Fr W w' (fun _ => False) := by
  have h' := h
  obtain ⟨O, Q, h1, h2, h3, h4, h5, h6, h7⟩ := h
  refine (h1.heard hm 1).mono fun e w' ⟨u, he, k1, k2⟩ => ⟨u, he, ?_, h'.but (k2.mono (fun _ _ h => h.elim)) (fun k hk => ⟨Or.inr (k1.lt hk).1, (k1.lt hk).2⟩), k2⟩
  rcases k1 with k1 | ⟨q1, ao, b, off, cap, e1, e2, e3, e4, e5⟩
  · exact Or.inl k1
  · exact Or.inr ⟨q1, ao, b, off, cap, e1, e2, e3, fun a ha => ⟨Nat.le_trans h3.size (e4 a ha).1, (e4 a ha).2⟩, e5⟩
theorem N3.heard2 {w W : World} {A B : Nat} {s t : Np} {va : Value} {all : List Nat} {S : Nat → Prop} (h : N3 w W A B s t va all S) (hm : t.m ≤ 70368744177664) : Calls Try.prog 17 #[.pointer (some ⟨B, 0, none⟩), .int .i64 1] W fun e w' => ∃ u, e = .returned (.tuple #[u, .bool (heardN t 1)]) ∧ Rw w' W.heap.size 5 u (heardB t 1) ∧ N3 w w' A B s t va all S ∧ Fr W w' (fun _ => False) := by
  have h' := h
  obtain ⟨O, Q, h1, h2, h3, h4, h5, h6, h7⟩ := h
  exact (h2.heard hm 1).mono fun e w' ⟨u, he, k1, k2⟩ => ⟨u, he, k1, h'.still k2, k2⟩
theorem N3.moved2 {w W : World} {A B : Nat} {s t : Np} {va : Value} {all : List Nat} {S : Nat → Prop} (h : N3 w W A B s t va all S) : Calls Try.prog 19 #[.pointer (some ⟨B, 0, none⟩)] W fun e w' => e = .returned (.int .i64 (t.m : Int)) ∧ w' = W := by
  obtain ⟨O, Q, h1, h2, h3, h4, h5, h6, h7⟩ := h
  exact h2.moved
/-- Behind an append to the row. -/
theorem N3.grow {w W W' : World} {A B : Nat} {s t : Np} {va va' : Value} {all zs : List Nat} {S : Nat → Prop} (h : N3 w W A B s t va all S) (h1 : Rw W' w.heap.size 5 va' (all ++ zs)) (h2 : Fr W W' (fun k => va.ownBlock = some k)) (h3 : Nw W va va') : N3 w W' A B s t va' (all ++ zs) S := by
  obtain ⟨O, Q, k1, k2, k3, k4, k5, k6, k7⟩ := h
  have e1 := h2.size
  refine ⟨O, Q, k1.step h2 (fun k ho hv => (k6 k hv).1 ho), k2.step h2 (fun k ho hv => (k6 k hv).2.1 ho), k3.trans2 h2 (fun k hk hv => by have := (k5.lt hv).1; omega), k4, h1, fun k hk => ?_, fun k hs => ⟨(k7 k hs).1, (k7 k hs).2.1, (k7 k hs).2.2.1, by have := (k7 k hs).2.2.2; omega⟩⟩
  rcases h3 k hk with h | h
  · exact k6 k h
  · exact ⟨fun ho => by have := k1.lt ho; omega, fun ho => by have := k2.lt ho; omega, fun hs => by have := (k7 k hs).2.2.2; omega⟩
/-- What the first net's connection has at a round's beginning. -/
def OS (s : Np) (all : List Nat) (n : Nat) : Prop := ∃ x m, One s 1 x 1000 1000 m ∧ m ≤ n ∧ x.cl = false ∧ x.ct = false ∧ x.i = [] ∧ x.w = [] ∧ x.o = [] ∧ x.h = all
theorem os_round {s : Np} {all z : List Nat} {n : Nat} (h : OS s all n) (hz : z.length ≤ 50) :
    (bringS (writeS (sendS s 1 z) 1 z) 1 1000).m ≤ n + 50 ∧ (writeS (sendS s 1 z) 1 z).m ≤ n ∧ takeB (fetchS (bringS (writeS (sendS s 1 z) 1 z) 1 1000) 1 1000) 1 = z ∧ OS (takeS (fetchS (bringS (writeS (sendS s 1 z) 1 z) 1 1000) 1 1000) 1) (all ++ z) (n + 100) := by
  obtain ⟨x, m, h1, h2, h3, h4, h5, h6, h7, h8⟩ := h
  obtain ⟨_, x1, a1, a2, a3, a4, a5, a6, a7⟩ := h1.sendX (shut_no h3 h4) (z := z) (by rw [h6]; simp; omega)
  obtain ⟨_, x2, b1, b2, b3, b4, b5, b6, b7⟩ := a1.writeX (shut_no (by rw [a6, h3]) (by rw [a7, h4])) z (k := z.length) (by rw [a4, h7]; simp; omega)
  have hk : partN x2.w.length (1000 - x2.i.length) 1000 = z.length := by
    rw [b3, a3, b2, a2, h5, h6]
    unfold partN
    simp only [List.nil_append, List.length_nil]
    omega
  obtain ⟨_, x3, c1, c2, c3, c4, c5, c6, c7⟩ := b1.bringX 1000 hk
  have hk2 : min x3.o.length (1000 : Int).toNat = z.length := by
    rw [c4, b4, a4, h7]
    simp only [List.nil_append, List.take_length]
    show min z.length 1000 = z.length
    omega
  obtain ⟨_, x4, d1, d2, d3, d4, d5, d6, d7⟩ := c1.fetchX 1000 hk2
  have hs4 : x4.shut = false := shut_no (by rw [d6, c6, b6, a6, h3]) (by rw [d7, c7, b7, a7, h4])
  obtain ⟨e0, x5, e1, e2, e3, e4, e5, e6, e7⟩ := d1.takeX hs4
  refine ⟨by rw [c1.m]; omega, by rw [b1.m]; omega, ?_, x5, _, e1, by omega, ?_, ?_, e2, ?_, ?_, ?_⟩
  · rw [e0, d2, c2, b2, a2, h5, b3, a3, h6]
    simp
  · rw [e6, d6, c6, b6, a6, h3]
  · rw [e7, d7, c7, b7, a7, h4]
  · rw [e3, d3, c3, b3, a3, h6]
    simp
  · rw [e4, d4, c4, b4, a4, h7]
    simp
  · rw [e5, d5, c5, b5, a5, h8, c4, b4, a4, h7]
    simp
theorem os_heard {s : Np} {all : List Nat} {n : Nat} (h : OS s all n) : heardB s 1 = all ∧ s.m ≤ n := by
  obtain ⟨x, m, h1, h2, h3, h4, h5, h6, h7, h8⟩ := h
  exact ⟨by rw [h1.heard.1, h8], by rw [h1.m]; exact h2⟩
theorem os_new : openE (np0 1000 1000) 1 = 0 ∧ OS (openS (np0 1000 1000) 1) [] 0 := by
  obtain ⟨h1, h2⟩ := one_new (a := 1000) (b := 1000) (c := 1) (by decide)
  exact ⟨h1, _, 0, h2, Nat.le_refl _, rfl, rfl, rfl, rfl, rfl, rfl⟩
theorem ot_new : openE (np0 5 5) 1 = 0 ∧ heardB (openS (np0 5 5) 1) 1 = [] ∧ (openS (np0 5 5) 1).m = 0 := by
  obtain ⟨h1, h2⟩ := one_new (a := 5) (b := 5) (c := 1) (by decide)
  exact ⟨h1, by rw [h2.heard.1]; rfl, h2.m⟩
end Go.Proofs.Ytedlpefglgleeab
