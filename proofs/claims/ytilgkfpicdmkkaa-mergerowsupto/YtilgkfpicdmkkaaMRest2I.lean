import Derived.Test.YtilgkfpicdmkkaaMRestI
/- merge: a heap of rests: Push, Pop: walks (lists of int). -/
namespace Go.Proofs.Ytilgkfpicdmkkaa.M.I
open Go.RowKit
variable {S : Rt → Value}

theorem Try.info_restI : (Try.prog.info? 95).map (fun i => (i.zero, i.size, i.bytes)) = some (some (.agg #[.int .i64 0, .slice none 0 0]), 2, 32) := by kernel_rfl
theorem infoP {o : Option TypeInfo} {z : Value} {n b : Nat} (h : o.map (fun i => (i.zero, i.size, i.bytes)) = some (some z, n, b)) : ∃ i, o = some i ∧ i.zero = some z ∧ i.size = n ∧ i.bytes = b := by
  obtain ⟨i, hi, hx⟩ := Option.map_eq_some_iff.1 h
  simp only [Prod.mk.injEq] at hx
  exact ⟨i, hi, hx.1, hx.2.1, hx.2.2⟩
theorem two_new (w : World) (a b : Value) (e : TypeId) : ∀ (j : Nat) (u : Value), [a, b][j]? = some u → (w.alloc (.cells #[a, b] e)).cell? ((⟨w.heap.size, 0, none⟩ : Addr).add j) = some u := by
  intro j u hj
  obtain ⟨h0, h1⟩ := cells2 (heap_last w (.cells #[a, b] e) _ rfl)
  match j, hj with
  | 0, hj => simp at hj; subst hj; exact h0
  | 1, hj => simp at hj; subst hj; exact h1
/-- The append at an operation, and where the new slice lies. -/
theorem wp_append_own_at {P : Program} (w : World) {o : Oper} {a : Act} {K : Act → World → Prop} {Q : Exit → Act → World → Prop} (s x : Operand) (t : TypeId)
    (ho : o.op = .call { callee := .builtin .append, args := #[s, x], argTypes := #[t, t] })
    (base : Nat) (e : TypeId) (i : TypeInfo) (z : Value) (size bytes : Nat) (ht : P.underlying t = some (.slice e)) (hi : P.info? e = some i) (hz : i.zero = some z)
    (hsize : i.size = size) (hby : i.bytes = bytes) (hzs : z.cells.size = size) (hsz : 0 < size)
    (v : Value) (n : Nat) (xs : List Value) (hs : a.eval s = v) (hown : w.ownsRow base e size v n xs)
    (ad : Addr) (m c : Nat) (news : List Value) (hx : a.eval x = .slice (some ad) m c) (hl : news.length = m * size) (hnews : ∀ j u, news[j]? = some u → w.cell? (ad.add j) = some u) (h1 : ∀ u ∈ news, u.oneCell' = true)
    (h63 : n + m ≤ maxLen) (hbytes : (n + m) * bytes ≤ 140737488355328) (hbase : base ≤ w.heap.size)
    (h : ∀ v' w', w'.ownsRow base e size v' (n + m) (xs ++ news) → w.grownBy w' v.ownBlock → (v'.ownBlock = v.ownBlock ∨ v'.ownBlock = some w.heap.size) → K (a.put o.dst v') w') : o.wp P a w K Q := by
  obtain ⟨v', w', hr, h2, h3, _, h5⟩ := run_append_own_at (P := P) w base t o.type e i z size bytes ht hi hz hsize hby hzs hsz v n xs hown ad m c news hl hnews h1 h63 hbytes hbase
  unfold Oper.wp execOp
  simp only [ho, resolve, invoke, builtin, Sem.run_bind, Sem.run_pure, Result.andThen_ok, List.map_toArray, List.map_cons, List.map_nil, hs, hx, hr]
  exact h v' w' h2 h3 h5
theorem Try.assert_restI (v : Value) (w : World) : (Instr.typeAssert (.iface 95 v) 20 95 false).run Try.prog w = .ok v w := by kernel_rfl
/-- What an append to a heap leaves. -/
theorem Rs.grown {f : Value} {w0 wk w wa w2 : World} {B : Nat} {v v' : Value} {hs : List Rt} {x : Rt} (h : Rs S f w0 wk w B v hs) (hf : Fr w wa (fun _ => False)) (hown : w2.ownsRow w0.heap.size 95 2 v' (hs.length + 1) (vc S hs ++ [.int .i64 (x.p : Int), S x])) (hg : wa.grownBy w2 v.ownBlock) (hat : v'.ownBlock = v.ownBlock ∨ v'.ownBlock = some wa.heap.size) (hl : hs.length < 1000000) :
    w2.heap[B]? = some (.cells #[f, v] 93 (0, 0)) ∧ Rs S f w0 wk (w2.setCell ⟨B, 1, none⟩ v') B v' (hs ++ [x]) := by
  have h1 := h.step hf
  have hlt := h1.lt
  have hB2 : w2.heap[B]? = some (.cells #[f, v] 93 (0, 0)) := by
    rw [hg.block B hlt (fun e => h1.ne e.symm)]
    exact h1.cell
  have hne : v'.ownBlock ≠ some B := by
    rcases hat with e | e
    · rw [e]; exact h1.ne
    · rw [e]; intro e2; simp at e2; omega
  refine ⟨hB2, ?_, ?_, ?_, h.hB, by simp; omega, h1.kpT (((Fr.refl wa (fun k => k = B ∨ v.ownBlock = some k)).grown hg (fun k _ e => Or.inr e)).setCell (p := ⟨B, 1, none⟩) (fun _ => Or.inl rfl) _)⟩
  · rw [heap_setCell_same w2 B 1 _ _ v' hB2]
    rfl
  · have := ownsRow_setCell_other (a := ⟨B, 1, none⟩) hown hne v'
    rw [vc_append, List.length_append]
    exact this
  · have hw := h1.fr.grown hg (fun k hk e => by have := h1.own.lt k e; omega)
    exact hw.setCell (p := ⟨B, 1, none⟩) (fun hh => by have := h.hB; simp only at hh; omega) _

set_option maxHeartbeats 1000000 in
set_option maxRecDepth 100000 in
theorem push_any {f : Value} {w0 wk : World} {B : Nat} {v : Value} {hs : List Rt} (x : Rt) (hS : ∃ a n c, S x = .slice a n c) (w : World) (h : Rs S f w0 wk w B v hs) (hl : hs.length < 1000000) :
    Calls Try.prog 79 #[.pointer (some ⟨B, 0, none⟩), .iface 95 (.agg #[.int .i64 (x.p : Int), S x])] w fun e w' => e = .returned (.tuple #[]) ∧ ∃ v', Rs S f w0 wk w' B v' (hs ++ [x]) := by
  obtain ⟨i0, hi, hz0, hz1, hz2⟩ := infoP Try.info_restI
  have HR := hid h
  have HG := hid (fun (wa w2 : World) (v' : Value) (hf : Fr w wa (fun _ => False)) hown hg hat => Rs.grown (x := x) (wa := wa) (w2 := w2) (v' := v') h hf hown hg hat hl)
  have HO := hid h.own
  have hbase := Nat.le_of_lt (Nat.lt_of_le_of_lt h.hB h.lt)
  obtain ⟨ao, cap, rfl⟩ := own_nil_shape h.own
  obtain ⟨_, c1⟩ := cells2 h.cell
  have hlt := h.lt
  obtain ⟨ax, nx, cx, hsx⟩ := hS
  rw [hsx] at HG ⊢
  have hta := Try.assert_restI
  clear h
  go_enter Try.func79, Try.ntmps79
  go_region_law (refine wp_append_own_at _ (.tmp 8) (.tmp 11) 91 rfl w0.heap.size 95 i0 _ 2 32 Try.underlying91 hi hz0 hz1 hz2 rfl (by decide) (.slice ao hs.length cap) hs.length (vc S hs) rfl (by repeat (first | exact HO.out | refine own_fr ?_ (alloc_fr _ _ (fun _ => False)) (fun _ _ h => h) | refine own_fr ?_ (Fr.drew (Fr.refl _ (fun _ => False))) (fun _ _ h => h))) ⟨_, 0, none⟩ 1 1 [_, _] rfl rfl (two_new _ _ _ _) (fun u hu => by simp at hu; rcases hu with rfl | rfl <;> rfl) (by unfold maxLen; omega) (by omega) (by simp; omega) ?_; intro v' w2 hown2 hgrow2 hat2; obtain ⟨hB2, hX⟩ := HG.out _ _ _ (by repeat (first | exact Fr.refl _ _ | apply Fr.alloc | apply Fr.drew)) hown2 hgrow2 hat2; have HX := hid hX; obtain ⟨_, d1⟩ := cells2 hB2; have d2 := lt_of_block hB2; have d3 := free2 hB2 1; obtain ⟨ao2, cap2, rfl⟩ := own_nil_shape hown2; clear hown2 hgrow2 hat2 hX)
  all_goals (
    go_end0
    exact ⟨rfl, _, HX.out⟩)

theorem Rs.cut {f : Value} {w0 wk w : World} {B g cap : Nat} {hs : List Rt} (h : Rs S f w0 wk w B (.slice (some ⟨g, 0, none⟩) hs.length cap) hs) (hl : 0 < hs.length) : Rs S f w0 wk (w.setCell ⟨B, 1, none⟩ (.slice (some ⟨g, 0, none⟩) (hs.length - 1) cap)) B (.slice (some ⟨g, 0, none⟩) (hs.length - 1) cap) hs.dropLast := by
  obtain ⟨g', cap', rest, e, hrow, hcap, hg, hm⟩ := own_rowR h.own hl
  simp only [Value.slice.injEq, Option.some.injEq, Addr.mk.injEq, and_true, true_and] at e
  obtain ⟨rfl, rfl⟩ := e
  have hne : B ≠ g := fun e => h.ne (by rw [e]; rfl)
  have hf : Fr w (w.setCell ⟨B, 1, none⟩ (.slice (some ⟨g, 0, none⟩) (hs.length - 1) cap)) (fun k => k = B) := (Fr.refl w (fun k => k = B)).setCell (p := ⟨B, 1, none⟩) (fun _ => rfl) _
  have ho := rowR_own (base := w0.heap.size) (cap := cap) (hrow.fr hf (fun e => hne e.symm)) hg hcap hm (hs.length - 1) (by omega)
  rw [← List.dropLast_eq_take] at ho
  refine ⟨?_, by rw [List.length_dropLast]; exact ho, h.fr.setCell (p := ⟨B, 1, none⟩) (fun hh => by have := h.hB; simp only at hh; omega) _, h.hB, by have := h.len; simp; omega, h.kpT (hf.mono (fun k _ e => Or.inl e))⟩
  rw [heap_setCell_same w B 1 _ _ _ h.cell]
  rfl
set_option maxHeartbeats 1000000 in
set_option maxRecDepth 100000 in
theorem pop_any {f : Value} {w0 wk : World} {B : Nat} {v : Value} {hs : List Rt} (hS : ∀ r, ∃ a n c, S r = .slice a n c) (w : World) (h : Rs S f w0 wk w B v hs) (hl : 0 < hs.length) :
    Calls Try.prog 78 #[.pointer (some ⟨B, 0, none⟩)] w fun e w' => (∃ x, e = .returned x) ∧ ∃ v', Rs S f w0 wk w' B v' hs.dropLast := by
  have HR := hid h
  have hlen := h.len
  obtain ⟨g, cap, rest, rfl, hrow, hcap, hg, hm⟩ := own_rowR h.own (by omega)
  obtain ⟨_, c1⟩ := cells2 h.cell
  obtain ⟨i0, i1⟩ := hrow.cells (hs.length - 1) (by omega)
  have fB := free2 h.cell 1
  have hlt := h.lt
  have hlg := hrow.lt
  have HX : Hid (Rs S f w0 wk (w.setCell ⟨B, 1, none⟩ (.slice (some ⟨g, 0, none⟩) (hs.length - 1) cap)) B (.slice (some ⟨g, 0, none⟩) (hs.length - 1) cap) hs.dropLast) := h.cut hl
  have hgB : g ≠ B := fun e => h.ne (by rw [e]; rfl)
  clear h hrow
  have t1 : 0 ≤ (hs.length : Int) - 1 := by omega
  have t2 : (hs.length : Int) - 1 < (hs.length : Int) := by omega
  have t3 : (hs.length : Int) - 1 ≤ (cap : Int) := by omega
  have t4 : (hs.length : Int) - 1 = ((hs.length - 1 : Nat) : Int) := by omega
  obtain ⟨ai, ni, ci, hsi⟩ := hS (at' hs (hs.length - 1))
  rw [hsi] at i1
  go_enter Try.func78, Try.ntmps78
  go_wp2_with fail
  go_ret
  exact ⟨⟨_, rfl⟩, _, HX.out.step (alloc_fr _ _ _)⟩
end Go.Proofs.Ytilgkfpicdmkkaa.M.I
