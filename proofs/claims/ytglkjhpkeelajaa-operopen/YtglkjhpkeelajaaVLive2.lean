/- oper: Live: the keys one behind the other, sorted: walks. -/
import Derived.Test.YtglkjhpkeelajaaVLive
import Derived.Test.YtglkjhpkeelajaaVSame
import Derived.Maps.OwnIn
namespace Go.Proofs.Ytglkjhpkeelajaa.V
open Go.RowKit Go.Maps Go.Shelf
open M (Cl cmpC cmC cmpC_zero cmpC_flip vC)

attribute [local go_sem] Oper.semAt_some

/-- Amid AppendSeq: the slice's box at N, the cells so far. -/
structure Am (w W : World) (N : Nat) (G : List Cl) : Prop where
  fr : Fr w W (fun _ => False)
  lt : w.heap.size ≤ N
  ex : ∃ v, W.heap[N]? = some (.cells #[v] 35 (0, 0)) ∧ Kw w.heap.size W v G
theorem am_own {w : World} {N B : Nat} (hB : w.heap.size ≤ B) : OwnFrom B (fun (s : List CF) W => Am w W N (cls s)) := fun s W W' row h hg hr => by
  obtain ⟨v, h1, h2⟩ := h.ex
  have hf : Fr W W' (fun k => row = some k) := ⟨hg.os, hg.tape, hg.output, hg.size, fun i hi hn => hg.block i hi (fun e => hn e.symm)⟩
  refine ⟨h.fr.trans2 hf (fun i hi e => by have := (hr i e).1; omega), h.lt, v, (hg.block N (lt_of_block h1) (fun e => ?_)).trans h1, h2.fr hf (fun k hk e => ?_)⟩
  · obtain ⟨_, o, ho, hc⟩ := hr N e.symm
    rw [h1] at ho
    cases ho
    cases hc
  · obtain ⟨_, cs, hcs⟩ := h2.cells hk
    obtain ⟨_, o, ho, hc⟩ := hr k e
    rw [hcs] at ho
    cases ho
    cases hc
theorem keeps_fr {B : Nat} {W W' : World} {S : Nat → Prop} (hf : Fr W W' S) (hS : ∀ k, S k → ∃ cs t z, W.heap[k]? = some (.cells cs t z)) : KeepsFrom B W W' ∧ KeepsWalks W W' :=
  ⟨⟨hf.size, fun k o _ hk ho => (hf.block k (lt_of_block hk) (fun hs => by
    obtain ⟨cs, t, z, h⟩ := hS k hs
    rw [hk] at h
    cases h
    cases ho)).trans hk⟩, ⟨hf.size, fun k o hk ho => (hf.block k (lt_of_block hk) (fun hs => by
    obtain ⟨cs, t, z, h⟩ := hS k hs
    rw [hk] at h
    cases h
    cases ho)).trans hk⟩⟩
/-- Append of one cell, within a round. -/
theorem wplIn_kw {F : Fence} {n : Nat} {W : World} {bn : Nat} {ops : Array Oper} {rest : List Oper} {o : Oper} {a : Act} {Q : Exit → Act → World → Prop} (hgd : o.guard = none) (sl x : Operand)
    (ho : o.op = .call { callee := .builtin .append, args := #[sl, x], argTypes := #[35, 35] }) (v : Value) (l : List Cl) (hs : a.eval sl = v) (N : Nat) (y : Cl) (hx : a.eval x = .slice (some ⟨N, 0, none⟩) 1 1) (hn : l.length ≤ 1000000000) (hb : Kw bn W v l) (hbs : bn ≤ W.heap.size) (hy : W.heap[N]? = some (.cells #[.int .i64 y.v, .string y.k, .int .i64 y.s] 64 (0, 0)))
    (h : ∀ v' w', Kw bn w' v' (l ++ [y]) → W.grownBy w' v.ownBlock → wpListIn F n Try.prog ops Q rest (a.put o.dst v') w') : wpListIn F n Try.prog ops Q (o :: rest) a W := by
  obtain ⟨i0, hi, hz0, hz1, hz2⟩ := infoP Try.info_cell
  refine wpListIn_append_own_at W hgd sl x 35 ho bn 64 i0 _ 3 32 Try.underlying35 hi hz0 hz1 hz2 rfl (by decide) v l.length (kv l) hs hb ⟨N, 0, none⟩ 1 1 [.int .i64 y.v, .string y.k, .int .i64 y.s] hx rfl ?_ (by intro u hu; simp at hu; rcases hu with rfl | rfl | rfl <;> rfl) (by unfold maxLen; omega) (by omega) hbs ?_
  · intro j u hj
    rw [Addr.add_lit, Nat.zero_add, cell_of_row W N j _ _ (0, 0) hy]
    match j, hj with
    | 0, hj => simpa using hj
    | 1, hj => simpa using hj
    | 2, hj => simpa using hj
  · intro v' w' hown hgr _ hat
    refine h v' w' ?_ hgr
    unfold Kw
    rw [kv_append, List.length_append]
    exact hown

set_option maxHeartbeats 2000000 in
set_option maxRecDepth 100000 in
theorem appendSeq_any {b Bm : Nat} {L : List Cl} (w : World) (hm : w.heap[Bm]? = some (.cells #[.map (some b)] 83 (0, 0))) (hmc : Mc w b L) (hnd : L.Nodup) (hl : L.length ≤ 1000000000) :
    Calls Try.prog 92 #[.slice none 0 0, .func (.func 80) #[] #[.pointer (some ⟨Bm, 0, none⟩)]] w fun e w' => ∃ v G, e = .returned v ∧ G.Perm L ∧ Kw w.heap.size w' v G ∧ Fr w w' (fun _ => False) := by
  have HSEQ := hid (fun (W : World) (hf : Fr w W (fun _ => False)) => keys_stops Fence.wide 2 trivial rfl (by decide) Bm b L W ((hf.block _ (lt_of_block hm) (fun h => h)).trans hm) (hmc.fr hf (fun h => h)) hnd)
  clear hm hmc hnd
  refine (callsIn_wide (n := 3)).1 ?_
  refine callsIn_of_wp_marks Try.func92 rfl trivial ?_ rfl
  simp only [Try.ntmps92, List.size_toArray, List.length_cons, List.length_nil, Nat.reduceAdd, Nat.reduceSub, Array.replicate_succ, Array.replicate_zero, List.push_toArray, List.append_toArray, List.nil_append, List.cons_append]
  refine wpIn_wide.2 ?_
  go_wp2_with fail
  have HA0 : Hid (Am w (w.alloc (.cells #[.slice none 0 0] 35)) w.heap.size (cls [])) := ⟨alloc_fr _ _ _, Nat.le_refl _, _, heap_last _ _ _ rfl, kw_nil _ _⟩
  generalize (w.alloc (.cells #[.slice none 0 0] 35)) = w5 at *
  refine (wpIn_wide (n := 3)).1 ?_
  refine wpIn_rangeFunc_ownH rfl (by decide) (gf := 80) (lb := #[.pointer (some ⟨Bm, 0, none⟩)]) rfl trivial (enters_of Try.func80 (by kernel_rfl) rfl)
    (HSEQ.out w5 HA0.out.fr) (fun h k => h.trans k) (fun W l o o' _ hl ho hw => KeepsWalks.putObj _ hl hw) (Below.refl _ _) (fun _ => rfl)
    (fun pre W => Am w W w.heap.size (cls pre))
    (fun _ _ _ => False)
    (am_own HA0.out.fr.size) (fun _ _ _ _ _ h _ _ => h) HA0.out
    (fun x a' W => ∃ M, a' = { tmps := #[.slice none 0 0, .func (.func 80) #[] #[.pointer (some ⟨Bm, 0, none⟩)], .pointer (some ⟨w.heap.size, 0, none⟩), undef, .slice none 0 0, .pointer (some ⟨M, 0, none⟩), .func (.func 80) #[] #[.pointer (some ⟨Bm, 0, none⟩)], .agg #[.int .i64 x.1.v, .string x.1.k, .int .i64 x.1.s], undef, undef, undef, undef, undef], defers := [] } ∧ W.heap[M]? = some (.cells #[.int .i64 x.1.v, .string x.1.k, .int .i64 x.1.s] 64 (0, 0)))
    (fun x a' s W W' row hs hg hr => by
      obtain ⟨M, e, hM⟩ := hs
      refine ⟨M, e, (hg.block M (lt_of_block hM) (fun e => ?_)).trans hM⟩
      obtain ⟨_, o, ho, hc⟩ := hr M e.symm
      rw [hM] at ho
      cases ho
      cases hc) ?assign ?body ?done ?stop
  case assign =>
    rintro l pre x W K hI hK
    unfold encC1
    obtain ⟨c, hc⟩ := x
    have HKe := hid hK
    clear hK
    dsimp only at HKe ⊢
    gi_wp2
    refine HKe.out _ _ ?k1 ?k2 ?k3 ?k4
    case k4 => exact ⟨_, rfl, heap_last _ _ _ rfl⟩
    case k1 => exact (keeps_fr (alloc_fr _ _ (fun _ => False)) (fun _ h => h.elim)).1
    case k2 => exact KeepsWalks.alloc _ _
    case k3 => exact am_own (B := w.heap.size) (Nat.le_refl _) _ _ _ none hI (World.grownBy_alloc W _ none) (fun r e => by cases e)
  case body =>
    rintro l pre x a' W hl9 _ hI ⟨M, rfl, hM⟩ hlt
    obtain ⟨c, hc⟩ := x
    dsimp only at hM ⊢
    obtain ⟨v, h1, h2⟩ := hI.ex
    have HI := hid hI
    have n0 := cell_of_one h1
    have nf := free_of_one h1
    have nl := lt_of_block h1
    obtain ⟨m0, m1, m2⟩ := cells3 hM
    have hMl := lt_of_block hM
    have HB1 := hid h1
    have HK1 := hid h2
    have HNE : Hid (v.ownBlock ≠ some w.heap.size) := own_ne h2 h1 (by decide)
    have hpl : (cls pre).length ≤ 1000000000 := by rw [cls_length]; omega
    have HAF := hid (alloc_fr W (.cells #[.int .i64 c.v, .string c.k, .int .i64 c.s] 64) (fun _ => False))
    have HKA : Hid (Kw w.heap.size (W.alloc (.cells #[.int .i64 c.v, .string c.k, .int .i64 c.s] 64)) v (cls pre)) := h2.fr HAF.out (fun _ _ h => h)
    have HSZ := hid (Nat.le_trans hI.fr.size HAF.out.size)
    clear h1 h2 hI hM hlt
    gi_wp2_with (first
      | (gi_at_builtin; refine wplIn_kw rfl (.tmp 8) (.tmp 10) rfl v (cls pre) rfl W.heap.size c rfl hpl HKA.out HSZ.out (heap_last _ _ _ rfl) ?_; intro v' w6 hK6 hg6; obtain ⟨ao6, cap6, hv6⟩ := hK6.shape; subst hv6; have HK6 := hid hK6; have HF6 := hid (fr_own hg6); have n6 : w6.cell? ⟨w.heap.size, 0, none⟩ = some v := cell_of_one ((HF6.out.block _ (Nat.lt_of_lt_of_le nl HAF.out.size) (fun e => HNE.out e)).trans ((HAF.out.block _ nl (fun h => h)).trans HB1.out)); have f6 : w6.frozen? ⟨w.heap.size, 0, none⟩ = false := free_of_one ((HF6.out.block _ (Nat.lt_of_lt_of_le nl HAF.out.size) (fun e => HNE.out e)).trans ((HAF.out.block _ nl (fun h => h)).trans HB1.out)); have l6 : w.heap.size < w6.heap.size := Nat.lt_of_lt_of_le (Nat.lt_of_lt_of_le nl HAF.out.size) HF6.out.size; clear hK6 hg6)
      | gi_in)
    have HB6 : Hid (w6.heap[w.heap.size]? = some (.cells #[v] 35 (0, 0))) := (HF6.out.block _ (Nat.lt_of_lt_of_le nl HAF.out.size) (fun e => HNE.out e)).trans ((HAF.out.block _ nl (fun h => h)).trans HB1.out)
    obtain ⟨v', hv'⟩ : ∃ v', v' = Value.slice ao6 ((cls pre).length + 1) cap6 := ⟨_, rfl⟩
    rw [show (cls pre ++ [c]).length = (cls pre).length + 1 from by simp, ← hv'] at HK6
    rw [← hv']
    have hNE' : v'.ownBlock ≠ some w.heap.size := own_ne HK6.out HB6.out (by decide)
    have hFS : Fr w6 (w6.setCell ⟨w.heap.size, 0, none⟩ v') (fun k => k = w.heap.size) := (Fr.refl w6 (fun k => k = w.heap.size)).setCell (p := ⟨w.heap.size, 0, none⟩) (fun _ => (rfl : w.heap.size = w.heap.size)) _
    have hFA : Fr W (w6.setCell ⟨w.heap.size, 0, none⟩ v') (fun k => v.ownBlock = some k ∨ k = w.heap.size) :=
      ((HAF.out.mono (fun _ _ h => h.elim)).trans (HF6.out.mono (fun _ _ h => Or.inl h))).trans (hFS.mono (fun _ _ h => Or.inr h))
    have hkp := keeps_fr (B := w5.heap.size) hFA (fun k hk => by
      rcases hk with hk | rfl
      · obtain ⟨_, cs, hcs⟩ := HK1.out.cells hk
        exact ⟨cs, _, _, hcs⟩
      · exact ⟨_, _, _, HB1.out⟩)
    refine ⟨hkp.1, hkp.2, HI.out.fr.trans2 hFA (fun k hk h => ?_), Nat.le_refl _, v', one_setCell HB6.out, ?_⟩
    · rcases h with h | h
      · have := (HK1.out.cells h).1; omega
      · omega
    · rw [cls_snoc]
      exact HK6.out.fr hFS (fun k hk e => hNE' (by rw [hk, e]))
  case done =>
    rintro D ys W hD hS hI hK
    obtain ⟨v, h1, h2⟩ := hI.ex
    have n0 := cell_of_one h1
    have nl := lt_of_block h1
    have HI := hid hI.fr
    have HK2 := hid h2
    have HD := hid hK
    clear h1 h2 hI hK
    show Exit.inBlock 0 (Exit.then _ _) Exit.normal _ _
    go_wp2_with fail
    refine ⟨by simp, .inl ⟨_, _, rfl, run_takeDeferred HD.out, ?_⟩⟩
    have hg := grownBy_putObj' W D (.deferred none)
    have hf : Fr W (W.putObj D (.deferred none)) (fun k => k = D) := (Fr.refl W (fun k => k = D)).grown hg (fun k _ e => by cases e; rfl)
    have hsz := HA0.out.fr.size
    exact ⟨v, by simp [results, Try.results92, go_sem], v, cls ys, rfl, hS, HK2.out.fr hf (fun k hk e => by
      obtain ⟨_, cs, hcs⟩ := HK2.out.cells hk
      have hd := HD.out
      rw [e, hd] at hcs
      cases hcs), HI.out.trans2 hf (fun i hi e => by omega)⟩
  case stop =>
    rintro D c pre W _ _ h _
    exact h.elim

set_option maxHeartbeats 2000000 in
theorem collect_any {b Bm : Nat} {L : List Cl} (w : World) (hm : w.heap[Bm]? = some (.cells #[.map (some b)] 83 (0, 0))) (hmc : Mc w b L) (hnd : L.Nodup) (hl : L.length ≤ 1000000000) :
    Calls Try.prog 79 #[.func (.func 80) #[] #[.pointer (some ⟨Bm, 0, none⟩)]] w fun e w' => ∃ v G, e = .returned v ∧ G.Perm L ∧ Kw w.heap.size w' v G ∧ Fr w w' (fun _ => False) := by
  have HA := hid (appendSeq_any w hm hmc hnd hl)
  clear hm hmc hnd
  go_enter Try.func79, Try.ntmps79
  go_wp2_with fail
  refine HA.out.mono ?_
  rintro e w1 ⟨v, G, rfl, hp, hk, hf⟩
  have HP := hid hp
  have HK := hid hk
  have HF := hid hf
  obtain ⟨ao, cap, rfl⟩ := hk.shape
  clear hp hk hf
  go_wp2_with fail
  go_ret
  exact ⟨_, G, rfl, HP.out, HK.out, HF.out⟩
theorem Kw.frz {b : Nat} {w w' : World} {S : Nat → Prop} {v : Value} {L : List Cl} (h : Kw b w v L) (hf : Fr w w' S) (hS : ∀ k, S k → k < b) : Kw b w' v L := h.fr hf (fun k hk hs => by have := (h.cells hk).1; have := hS k hs; omega)

set_option maxHeartbeats 2000000 in
set_option maxRecDepth 100000 in
theorem sortedFunc_any {b Bm : Nat} {L : List Cl} (w : World) (hm : w.heap[Bm]? = some (.cells #[.map (some b)] 83 (0, 0))) (hmc : Mc w b L) (hr : Ri L) (hl : L.length ≤ 1000000000) :
    Calls Try.prog 47 #[.func (.func 80) #[] #[.pointer (some ⟨Bm, 0, none⟩)], .func (.func 33) #[] #[]] w fun e w' => ∃ v, e = .returned v ∧ Kw w.heap.size w' v L ∧ Fr w w' (fun _ => False) := by
  have HA := hid (collect_any w hm hmc (ri_nodup hr) hl)
  have HRI := hid hr
  clear hm hmc hr
  go_enter Try.func47, Try.ntmps47
  go_wp2_with fail
  refine HA.out.mono ?_
  rintro e w1 ⟨v, G, rfl, hp, hk, hf⟩
  have HP := hid hp
  have HK := hid hk
  have HF := hid hf
  have HGL := hid hp.length_eq
  clear HA hp hk hf
  rcases HK.out.row with ⟨rfl, rfl⟩ | ⟨g, cap, rest, rfl, h1, h2, h3, hrow, h5⟩
  · go_wp2_with fail
    refine (sortK_none _ _ _ _).mono ?_
    rintro e w4 ⟨rfl, hw4⟩
    obtain rfl : w1 = w4 := hw4.symm
    clear hw4
    go_wp2_with fail
    go_ret
    have e : L = [] := List.nil_perm.1 HP.out
    exact ⟨_, rfl, by rw [e]; exact kw_nil _ _, HF.out⟩
  · have HROW := hid hrow
    have HC1 := hid h1
    have HC2 := hid h2
    have HC3 := hid h3
    have HC5 := hid h5
    have hgl : G.length ≤ 2199023255552 := by have := HGL.out; omega
    clear hrow h1 h2 h3 h5
    go_wp2_with fail
    refine (sortK_any _ HROW.out hgl).mono ?_
    rintro e w4 ⟨rfl, ys, hyl, hyp, hys, hrow4, hf4⟩
    have hye : ys = L := ri_ext (ri_sorted hyp (HP.out.nodup_iff.2 (ri_nodup HRI.out)) hys) HRI.out (fun c => (hyp.trans HP.out).mem_iff)
    have HYE := hid hye
    have HYL := hid hyl
    have HR4 := hid hrow4
    have HF4 := hid hf4
    clear hye hyl hyp hys hrow4 hf4
    go_wp2_with fail
    go_ret
    refine ⟨.slice (some ⟨g, 0, none⟩) G.length cap, rfl, ?_, HF.out.trans2 HF4.out (fun i hi e => by have := HC3.out; omega)⟩
    rw [← HYE.out, ← HYL.out]
    exact HR4.out.kw (by rw [HYL.out]; exact HC1.out) HC2.out HC3.out (by rw [HYL.out]; exact HC5.out)

set_option maxHeartbeats 2000000 in
set_option maxRecDepth 100000 in
theorem live_any {w : World} {x : Ox} {vs : List Vw} {ms : List Int} {L : List Cl} (h : Op w x vs ms L) (hl : L.length ≤ 1000000000) :
    Calls Try.prog 16 #[.pointer (some ⟨x.B, 0, none⟩)] w fun e w' => ∃ u, e = .returned u ∧ Kw w.heap.size w' u L ∧ Fr w w' (fun _ => False) := by
  obtain ⟨⟨_, c1, _, _, _⟩, hlt⟩ := h.cells
  have HA := hid (sortedFunc_any (w.alloc (.cells #[.map (some x.mb)] 83)) (heap_last _ _ _ rfl) (h.map.fr (alloc_fr _ _ (fun _ => False)) (fun h => h)) h.ri hl)
  have HF0 := hid (alloc_fr w (.cells #[.map (some x.mb)] 83) (fun _ => False))
  clear h
  go_enter Try.func16, Try.ntmps16
  go_wp2_with fail
  refine (keys_any _ _).mono ?_
  rintro e w1 ⟨rfl, hw1⟩
  obtain rfl := hw1
  go_wp2_with fail
  refine HA.out.mono ?_
  rintro e w2 ⟨u, rfl, hk, hf⟩
  have HK := hid hk
  have HF := hid (HF0.out.trans hf)
  obtain ⟨ao, cap, rfl⟩ := hk.shape
  clear hk hf
  go_wp2_with fail
  go_ret
  refine ⟨_, rfl, ?_, HF.out⟩
  have := HK.out
  simp only [World.size_alloc] at this
  exact ⟨this.1, this.2.imp id (fun ⟨g, cap', cur, h1, h2, h3⟩ => ⟨g, cap', cur, h1, by omega, h3⟩)⟩
end Go.Proofs.Ytglkjhpkeelajaa.V
