/- The law's apart over rows that may begin inside a block: what stands, and its walk. -/
import Derived.Test.YtedlpefglgleeabNBk1
import Derived.Laws.OwnMore
import Derived.Deep.LoopGhost
import Derived.BigQuiet
import Derived.Below
namespace Go.Proofs.Ytedlpefglgleeab
open Go.RowKit

theorem Try.info_slq : (Try.prog.info? 22).map (fun i => (i.zero, i.size, i.bytes)) = some (some (.slice none 0 0), 1, 24) := by kernel_rfl
theorem hidq {p : Prop} (h : p) : Hid p := h
theorem lastq (w : World) (o : Obj) (k : Nat) (h : w.heap.size = k) : (w.alloc o).heap[k]? = some o := by subst h; exact heap_alloc_new w o
theorem Rw.slot {w : World} {lo b off n cap : Nat} {v : Value} {xs : List Nat} (h : Rw w lo 5 v xs) (hv : v = .slice (some ⟨b, off, none⟩) n cap) (j : Nat) (hj : j < xs.length) : w.cell? ⟨b, off + j, none⟩ = some (.int .u8 ((xs.getD j 0 : Nat) : Int)) ∧ w.frozen? ⟨b, off + j, none⟩ = false := by
  subst hv
  have ho := h.of
  refine ⟨ho.cells j hj, ?_⟩
  obtain ⟨ao, b', off', cap', hv, hle, hcm, hst, hcap⟩ := ho
  simp only [Value.slice.injEq] at hv
  obtain ⟨rfl, rfl, rfl⟩ := hv
  obtain ⟨h1, cur, hg, _⟩ := hcap (by omega)
  simp only [Option.some.injEq, Addr.mk.injEq, and_true] at h1
  obtain ⟨rfl, rfl⟩ := h1
  simp [World.frozen?, hg]
theorem Rw.put {w : World} {lo b off n cap : Nat} {v : Value} {xs : List Nat} (h : Rw w lo 5 v xs) (hv : v = .slice (some ⟨b, off, none⟩) n cap) (j c : Nat) (hj : j < xs.length) : Rw (w.setCell ⟨b, off + j, none⟩ (.int .u8 (c : Int))) lo 5 v (xs.set j c) := by
  subst hv
  have hf := (Fr.refl w (fun k => k = b)).setCell (p := ⟨b, off + j, none⟩) (fun _ => rfl) (.int .u8 (c : Int))
  obtain ⟨ao, b', off', cap', hv, hle, hcm, hst, hcap⟩ := h.of
  simp only [Value.slice.injEq] at hv
  obtain ⟨rfl, rfl, rfl⟩ := hv
  obtain ⟨h1, cur, hg, hs, hc⟩ := hcap (by omega)
  simp only [Option.some.injEq, Addr.mk.injEq, and_true] at h1
  obtain ⟨rfl, rfl⟩ := h1
  refine Or.inr ⟨by intro e; rw [List.set_eq_nil_iff] at e; rw [e] at hj; simp at hj, some ⟨b, off, none⟩, b, off, cap, by rw [List.length_set], by rw [List.length_set]; exact hle, hcm, fun a ha => ⟨(hst a ha).1, Nat.lt_of_lt_of_le (hst a ha).2 hf.size⟩, fun _ => ⟨rfl, _, heap_setCell_same w b (off + j) cur 5 _ hg, by simpa using hs, fun q hq => ?_⟩⟩
  rw [List.length_set] at hq
  rw [getD_seq hj]
  by_cases e : q = j
  · subst e
    rw [if_pos rfl, Array.getElem?_setIfInBounds_self_of_lt (by omega)]
  · rw [if_neg e, Array.getElem?_setIfInBounds_ne (by omega)]
    exact hc q hq
/-- What an append of two bytes to a row that stays leaves. -/
def Two (w : World) (base : Nat) (v : Value) (xs : List Nat) (y1 y2 g o : Nat) (w' : World) : Prop := Rw w' base 5 v xs ∧ Fr w w' (fun k => v.ownBlock = some k) ∧ base ≤ g ∧ ∃ cs, w'.heap[g]? = some (.cells cs 5 (0, 0)) ∧ cs[o + xs.length]? = some (.int .u8 (y1 : Int)) ∧ cs[o + (xs.length + 1)]? = some (.int .u8 (y2 : Int)) ∧ ((v.ownBlock = some g ∧ ∀ b off n' cap', v = .slice (some ⟨b, off, none⟩) n' cap' → off = o) ∨ g = w.heap.size)
theorem wpl_two {P : Program} (w : World) {ops : Array Oper} {rest : List Oper} {o : Oper} {a : Act} {Q : Exit → Act → World → Prop} (hgd : o.guard = none) (s x : Operand) (t : TypeId)
    (ho : o.op = .call { callee := .builtin .append, args := #[s, x], argTypes := #[t, t] })
    (base : Nat) (i : TypeInfo) (ht : P.underlying t = some (.slice 5)) (hi : P.info? 5 = some i) (hz : i.zero = some (.int .u8 0)) (hsize : i.size = 1) (hby : i.bytes = 1)
    (v : Value) (xs : List Nat) (hv : a.eval s = v) (hown : Rw w base 5 v xs) (pv : Value) (y1 y2 : Nat) (hx : a.eval x = pv) (hp : Bs w pv [y1, y2]) (hb : xs.length + 2 ≤ 140737488355328) (hbase : base ≤ w.heap.size)
    (h : ∀ g oo cap w', Hid (Two w base v xs y1 y2 g oo w') → wpList P ops Q rest (a.put o.dst (.slice (some ⟨g, oo, none⟩) (xs.length + 2) cap)) w') : wpList P ops Q (o :: rest) a w := by
  refine wpList_plain hgd fun K hK => ?_
  obtain ⟨g, oo, cap, w', cs, hr, h2, h3, h4, h5⟩ := run_append_two (P := P) w base t o.type 5 i ht hi hz hsize hby v xs hown pv y1 y2 (bs_src ht hp) hb hbase
  unfold Oper.wp execOp
  simp only [ho, resolve, invoke, builtin, Sem.run_bind, Sem.run_pure, Result.andThen_ok, List.map_toArray, List.map_cons, List.map_nil, hv, hx, hr]
  exact hK _ _ (h g oo cap w' ⟨h2, h3, h4, cs, h5⟩)
theorem two_newq (w : World) (x y : Value) (e : TypeId) : ∀ (j : Nat) (u : Value), [x, y][j]? = some u → (w.alloc (.cells #[x, y] e)).cell? ((⟨w.heap.size, 0, none⟩ : Addr).add j) = some u := by
  intro j u hj
  have h := lastq w (.cells #[x, y] e) _ rfl
  rw [Addr.add_lit, cell_of_row _ _ _ _ _ _ h, Nat.zero_add]
  match j, hj with
  | 0, hj => exact hj
  | 1, hj => exact hj
theorem made_ownq (w : World) (base n : Nat) (hb : base ≤ w.heap.size) (hn : n ≤ 100) : (w.alloc (.cells (madeCells #[Value.slice none 0 0] n) 22)).ownsRow base 22 1 (.slice (some ⟨w.heap.size, 0, none⟩) n n) n (List.replicate n (.slice none 0 0)) := by
  refine ⟨by simp, Or.inr ⟨w.heap.size, n, madeCells #[Value.slice none 0 0] n, rfl, hb, lastq _ _ _ rfl, Nat.le_refl _, by unfold maxLen; omega, by rw [size_madeCells, Nat.mul_one], ?_⟩⟩
  rw [toList_madeCells_one]
  simp
/-- What stands in apart: the books, and for the first i rows what was appended (P1, P2: the numbers). -/
structure AQ (N : Nat) (w wx : World) (vK vW vM : Value) (VK VW MS : List Value) (ks xs : List (List Nat)) (n i : Nat) (P1 P2 : Nat → Nat) : Prop where
  bb : BQ N w wx vK vW VK VW ks xs n
  len : ∀ q, (ks.getD q []).length = (xs.getD q []).length
  sm : wx.ownsRow N 22 1 vM n MS
  mnew : ∀ b, vM.ownBlock = some b → w.heap.size ≤ b
  mka : ∀ b, vM.ownBlock = some b → vK.ownBlock ≠ some b
  mw : ∀ b, vM.ownBlock = some b → vW.ownBlock ≠ some b
  mo : ∀ q, q < i → MoQ wx N VK n q (xs.getD q []).length (MS.getD q nq) (P1 q) (P2 q)
theorem AQ.step {N : Nat} {w wx wy : World} {vK vW vM : Value} {VK VW MS : List Value} {ks xs : List (List Nat)} {n i : Nat} {P1 P2 : Nat → Nat} (h : AQ N w wx vK vW vM VK VW MS ks xs n i P1 P2) (hf : Fr wx wy (fun _ => False)) : AQ N w wy vK vW vM VK VW MS ks xs n i P1 P2 :=
  ⟨h.bb.step hf, h.len, own_fr h.sm hf (fun _ _ h => h), h.mnew, h.mka, h.mw, fun q hq => (h.mo q hq).fr hf (fun _ _ _ _ h => h)⟩
/-- One row is appended to, and the answer laid into the third spine. -/
theorem AQ.push {N : Nat} {w wx wy : World} {vK vW vM : Value} {VK VW MS : List Value} {ks xs : List (List Nat)} {n i gM g o cap : Nat} {P1 P2 : Nat → Nat} {ob : Obj} (h : AQ N w wx vK vW vM VK VW MS ks xs n i P1 P2) (hi : i < n)
    (ht : Two (wx.alloc ob) N (VK.getD i nq) (xs.getD i []) (P1 i) (P2 i) g o wy) (hgM : vM.ownBlock = some gM) :
    AQ N w (wy.setCell ⟨gM, i, none⟩ (.slice (some ⟨g, o, none⟩) ((xs.getD i []).length + 2) cap)) vK vW vM VK VW (MS.set i (.slice (some ⟨g, o, none⟩) ((xs.getD i []).length + 2) cap)) (ks.set i (xs.getD i [])) xs n (i + 1) P1 P2 := by
  obtain ⟨hkeep, hf0, hbg, cs, hcs, hc1, hc2, hat⟩ := ht
  have hik : i < ks.length := by rw [h.bb.klen]; exact hi
  have hml : MS.length = n := by simpa using h.sm.1
  have hf : Fr wx wy (fun k => (VK.getD i nq).ownBlock = some k) := (alloc_fr wx ob _).trans hf0
  have hOB := h.bb.turn (j := i) hi (x := xs.getD i []) hf hkeep
  have hoA := h.bb.k.own i hik
  have hsm : wy.ownsRow N 22 1 vM n MS := own_fr h.sm hf (fun k hk e => spine_nq h.sm hoA k hk e)
  have hgb := h.mnew gM hgM
  generalize hM0 : (Value.slice (some ⟨g, o, none⟩) ((xs.getD i []).length + 2) cap) = M
  have hfs : Fr wy (wy.setCell ⟨gM, i, none⟩ M) (fun k => k = gM) := (Fr.refl wy (fun k => k = gM)).setCell (p := ⟨gM, i, none⟩) (fun _ => rfl) _
  have hrow : ∀ (v : Value) (us : List Nat), Rw wy N 5 v us → ∀ k, v.ownBlock = some k → ¬ k = gM := fun v us ho k hk e => spine_nq hsm ho gM hgM (by rw [hk, e])
  have hne : ∀ j, j < n → j ≠ i → (VK.getD j nq).ownBlock ≠ some g := by
    intro j hj hji e
    rcases hat with h1 | h1
    · exact h.bb.k.apart i j hik (by rw [h.bb.klen]; exact hj) (Ne.symm hji) g h1.1 e
    · have := (h.bb.k.lt (show j < ks.length by rw [h.bb.klen]; exact hj) e).2
      simp at h1
      omega
  have hsame : ∀ b off n' cap', VK.getD i nq = .slice (some ⟨b, off, none⟩) n' cap' → b = g → off = o := by
    intro b off n' cap' e eb
    rcases hat with h1 | h1
    · exact h1.2 b off n' cap' e
    · have := (h.bb.k.lt hik (k := b) (by rw [e]; rfl)).2
      simp at h1
      omega
  have hMo : MoQ wy N VK n i (xs.getD i []).length M (P1 i) (P2 i) := ⟨g, o, cap, cs, hM0.symm, hbg, hcs, hc1, hc2, hne, hsame⟩
  have hmo : ∀ (q : Nat) (Mq : Value), MoQ wy N VK n q (xs.getD q []).length Mq (P1 q) (P2 q) → MoQ (wy.setCell ⟨gM, i, none⟩ M) N VK n q (xs.getD q []).length Mq (P1 q) (P2 q) := fun q Mq hq => hq.fr hfs (fun g o cap hM e => by
    obtain ⟨g', o', cap', cs, hM', _, hh, _⟩ := hq
    rw [hM] at hM'
    cases hM'
    subst e
    exact own_ne hsm hh (by decide) hgM)
  refine ⟨⟨hOB.fr.trans2 hfs (fun k hk e => by omega), own_fr hOB.sk hfs (fun k hk e => h.mka gM hgM (by rw [hk, e])), own_fr hOB.sw hfs (fun k hk e => h.mw gM hgM (by rw [hk, e])), hOB.sp, hOB.k.fr hfs (fun j hj k hk => hrow _ _ (hOB.k.own j hj) k hk), hOB.u.fr hfs (fun j hj k hk => hrow _ _ (hOB.u.own j hj) k hk), hOB.cross, hOB.klen, hOB.len, hOB.base, hOB.short⟩, fun q => ?_, own_setW hsm hgM i M, h.mnew, h.mka, h.mw, fun q hq => ?_⟩
  · rw [getD_seq hik]
    split
    · rename_i e
      rw [e]
    · exact h.len q
  · rw [getD_seq (by omega)]
    split
    · rename_i e
      subst e
      exact hmo q M hMo
    · refine hmo q _ ((h.mo q (by omega)).fr hf (fun g cap o hM e => ?_))
      obtain ⟨g', o', cap', cs, hM', _, _, _, _, h3, _⟩ := h.mo q (by omega)
      rw [hM] at hM'
      cases hM'
      exact h3 i hi (by omega) e
/-- One cell of a row is written. -/
theorem AQ.write {N : Nat} {w wx : World} {vK vW vM : Value} {VK VW MS : List Value} {ks xs : List (List Nat)} {n i b off n' cap k : Nat} {P1 P2 : Nat → Nat} (h : AQ N w wx vK vW vM VK VW MS ks xs n n P1 P2) (hi : i < n) (hb : VK.getD i nq = .slice (some ⟨b, off, none⟩) n' cap) (hk : k < (xs.getD i []).length) (u : Nat) :
    AQ N w (wx.setCell ⟨b, off + k, none⟩ (.int .u8 (u : Int))) vK vW vM VK VW MS (ks.set i ((ks.getD i []).set k u)) xs n n P1 P2 := by
  have hik : i < ks.length := by rw [h.bb.klen]; exact hi
  have hoA := h.bb.k.own i hik
  have hb1 : (VK.getD i nq).ownBlock = some b := by rw [hb]; rfl
  have hf : Fr wx (wx.setCell ⟨b, off + k, none⟩ (.int .u8 (u : Int))) (fun c => (VK.getD i nq).ownBlock = some c) := (Fr.refl wx (fun c => (VK.getD i nq).ownBlock = some c)).setCell (p := ⟨b, off + k, none⟩) (fun _ => hb1) _
  refine ⟨h.bb.turn hi hf (hoA.put hb k u (by rw [h.len i]; exact hk)), fun q => ?_, own_fr h.sm hf (fun c hc e => spine_nq h.sm hoA c hc e), h.mnew, h.mka, h.mw, fun q hq => (h.mo q hq).put _ hb hi (fun e => by rw [← e]; exact hk)⟩
  rw [getD_seq hik]
  split
  · rename_i e
    rw [List.length_set, e, h.len i]
  · exact h.len q
theorem AQ.start {N : Nat} {wx : World} {vK vW : Value} {VK VW : List Value} {xs : List (List Nat)} {n : Nat} {P1 P2 : Nat → Nat} (h : BQ N wx wx vK vW VK VW xs xs n) (hn : n ≤ 100) : AQ N wx (wx.alloc (.cells (madeCells #[Value.slice none 0 0] n) 22)) vK vW (.slice (some ⟨wx.heap.size, 0, none⟩) n n) VK VW (List.replicate n (.slice none 0 0)) xs xs n 0 P1 P2 :=
  ⟨h.step (alloc_fr _ _ _), fun _ => rfl, made_ownq wx _ n h.base hn, fun b hb => by simp only [Value.ownBlock, Option.some.injEq] at hb; omega, fun b hb e => by simp only [Value.ownBlock, Option.some.injEq] at hb; have := (h.sk.lt b e).2; omega, fun b hb e => by simp only [Value.ownBlock, Option.some.injEq] at hb; have := (h.sw.lt b e).2; omega, fun q hq => absurd hq (Nat.not_lt_zero q)⟩
theorem AQ.room {N : Nat} {w wx wy : World} {vK vW : Value} {VK VW MS : List Value} {ks xs : List (List Nat)} {n i gM cap y1 y2 g o : Nat} {P1 P2 : Nat → Nat} {X : List Nat} {ob : Obj} (h : AQ N w wx vK vW (.slice (some ⟨gM, 0, none⟩) n cap) VK VW MS ks xs n i P1 P2) (hi : i < n) (hg : Two (wx.alloc ob) N (VK.getD i nq) X y1 y2 g o wy) : wy.cell? ⟨gM, i, none⟩ = some (MS.getD i nq) ∧ wy.frozen? ⟨gM, i, none⟩ = false := by
  have hf : Fr wx wy (fun k => (VK.getD i nq).ownBlock = some k) := (alloc_fr wx ob _).trans hg.2.1
  obtain ⟨g, c, e, h1, h2⟩ := spine_cellq (own_fr h.sm hf (fun k hk e => spine_nq h.sm (h.bb.k.own i (by rw [h.bb.klen]; exact hi)) k hk e)) hi
  cases e
  exact ⟨h1, h2⟩
/-- What apart appends and writes. -/
def q1 (q : Nat) : Nat := (7 * q + 254) % 256
def q2 (q : Nat) : Nat := (7 * q + 251) % 256
theorem q1_int (q : Nat) : (7 * (q : Int) + -3 + 1) % 256 = ((q1 q : Nat) : Int) := by unfold q1; omega
theorem q2_int (q : Nat) : (7 * (q : Int) + -6 + 1) % 256 = ((q2 q : Nat) : Int) := by unfold q2; omega
def mkq (q k : Nat) : Nat := (7 * q + 3 * k + 1) % 256
theorem mkq_int (q k : Nat) : (7 * (q : Int) + 3 * (k : Int) + 1) % 256 = ((mkq q k : Nat) : Int) := by unfold mkq; omega
structure Mkq (ks xs : List (List Nat)) (j : Nat) : Prop where
  len : ∀ q, (ks.getD q []).length = (xs.getD q []).length
  new : ∀ q, q < j → ∀ k, k < (xs.getD q []).length → (ks.getD q []).getD k 0 = mkq q k
theorem Mkq.next {ks ks' xs : List (List Nat)} {j : Nat} (h : Mkq ks xs j) (he : ∀ q, q ≠ j → ks'.getD q [] = ks.getD q []) (hl : ∀ q, (ks'.getD q []).length = (xs.getD q []).length) (hn : ∀ q, q < (xs.getD j []).length → (ks'.getD j []).getD q 0 = mkq j q) : Mkq ks' xs (j + 1) := by
  refine ⟨hl, fun q hq k hk => ?_⟩
  rcases Nat.decEq q j with e | e
  · rw [he q e]
    exact h.new q (by omega) k hk
  · subst e
    exact hn k hk
/-- Behind a call that turns nothing old, every old cell reads as before. -/
theorem fr_rulesq {a w' : World} (h : Fr a w' (fun _ => False)) : ∀ b o, b < a.heap.size → w'.cell? ⟨b, o, none⟩ = a.cell? ⟨b, o, none⟩ := by
  have hb : Below a.heap.size a w' := h.below (Nat.le_refl _) (fun _ h => h.elim)
  exact fun b o h => hb.cell (p := ⟨b, o, none⟩) h

end Go.Proofs.Ytedlpefglgleeab
