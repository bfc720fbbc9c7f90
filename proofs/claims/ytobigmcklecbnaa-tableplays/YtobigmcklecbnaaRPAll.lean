/- spatelaw6.all: a walk. -/
import Derived.Test.YtobigmcklecbnaaRSort
namespace Go.Proofs.Ytobigmcklecbnaa
open Go.RowKit Go.Shelf

attribute [local go_sem] Oper.semAt_some

set_option maxHeartbeats 2000000 in
set_option maxRecDepth 100000 in
theorem pall_any {B gr C hr' : Nat} {ge he' : Option Nat} {T : Tb} (w : World) (h : TbAt w B gr ge T) (k : RfAt w C hr' he' T) :
    Calls Try.prog 22 #[.pointer (some ⟨B, 0, none⟩), .pointer (some ⟨C, 0, none⟩)] w fun e w' => e = .returned (.bool true) ∧ Fr w w' (fun _ => False) := by
  have HT := hid h
  have HRA := hid (fun (W : World) (hf : Fr w W (fun _ => False)) => rall_any W (k.step hf))
  have HTA := hid (fun (W : World) (hf : Fr w W (fun _ => False)) => all_any W (h.step hf))
  have hsl : (sortL (entT T)).length ≤ 2199023255552 := by
    rw [sortL_len]
    have h1 := h.inv.keys
    have h2 := h.inv.room
    have h3 := h.len
    unfold entT
    rw [List.length_append, ents_length, ents_length]
    omega
  have HEn := hid (enP_entT T)
  clear h k
  refine (callsIn_wide (n := 3)).1 ?_
  refine callsIn_of_wp_marks Try.func22 rfl trivial ?_ rfl
  simp only [Try.ntmps22, List.size_toArray, List.length_cons, List.length_nil, Nat.reduceAdd, Nat.reduceSub, Array.replicate_succ, Array.replicate_zero, List.push_toArray, List.append_toArray, List.nil_append, List.cons_append]
  refine wpIn_wide.2 ?_
  go_wp2_with fail
  obtain ⟨w0, hw0⟩ : ∃ w0, w.alloc (.cells #[.bool false] 4) = w0 := ⟨_, rfl⟩
  rw [hw0]
  have HF0 : Hid (Fr w w0 (fun _ => False)) := by rw [← hw0]; exact alloc_fr w _ _
  have hs0 : w0.heap.size = w.heap.size + 1 := by rw [← hw0]; simp
  have HB0 : Hid (w0.heap[w.heap.size]? = some (.cells #[.bool false] 4 (0, 0))) := by
    show w0.heap[w.heap.size]? = _
    rw [← hw0]; exact heap_last _ _ _ rfl
  refine (HRA.out w0 HF0.out).mono ?_
  rintro e w1 ⟨lv, kv, vv, rfl, hSI⟩
  rw [HEn.out] at hSI
  generalize hL0 : sortL (entT T) = L at *
  have HL0 := hid hL0
  clear hL0
  obtain ⟨aok, capk, ek⟩ := own_nil_shape hSI.ko
  rw [kvs_length] at ek
  subst ek
  obtain ⟨aov, capv, ev⟩ := own_nil_shape hSI.vo
  rw [vvs_length] at ev
  subst ev
  have HSI := hid hSI
  have HF1 := hid (HF0.out.trans hSI.fr)
  have HB1 := hid ((hSI.fr.block _ (lt_of_block HB0.out) (fun h => h)).trans HB0.out)
  clear hSI hw0
  go_wp2_with fail
  obtain ⟨w2, hw2⟩ : ∃ w2, ((w1.alloc (.cells #[.slice aok L.length capk] 50)).alloc (.cells #[.slice aov L.length capv] 43)).alloc (.cells #[.int .i64 0] 3) = w2 := ⟨_, rfl⟩
  rw [hw2]
  have HF2 : Hid (Fr w1 w2 (fun _ => False)) := by rw [← hw2]; exact ((alloc_fr w1 _ _).alloc _).alloc _
  have hs2 : w2.heap.size = w1.heap.size + 3 := by rw [← hw2]; simp
  have HX0 : Hid (w2.heap[w1.heap.size]? = some (.cells #[.slice aok L.length capk] 50 (0, 0))) := by
    show w2.heap[w1.heap.size]? = _
    rw [← hw2, Below.heap_alloc _ _ _ (by simp; omega), Below.heap_alloc _ _ _ (by simp)]
    exact heap_last _ _ _ rfl
  have HX1 : Hid (w2.heap[w1.heap.size + 1]? = some (.cells #[.slice aov L.length capv] 43 (0, 0))) := by
    show w2.heap[w1.heap.size + 1]? = _
    rw [← hw2, Below.heap_alloc _ _ _ (by simp)]
    exact heap_last _ _ _ (by simp)
  have HX2 : Hid (w2.heap[w1.heap.size + 1 + 1]? = some (.cells #[.int .i64 0] 3 (0, 0))) := by
    show w2.heap[w1.heap.size + 1 + 1]? = _
    rw [← hw2]
    exact heap_last _ _ _ (by simp)
  clear hw2
  refine (HTA.out w2 (HF1.out.trans HF2.out)).mono ?_
  rintro e w3 ⟨N, rfl, S, cap, L', hN, hS, hq, hp, hsr, hf3⟩
  have hLL : L' = L := by rw [← HL0.out]; exact sorted_one HT.out hp hsr
  subst hLL
  obtain ⟨Ls, hLs⟩ := lift_eo (P := fun _ => True) (L := L') (fun _ _ => trivial)
  have hq0 := hq
  rw [← hLs] at hq
  have HQ := hid hq
  have HLs := hid hLs
  have HlL : Hid (Ls.length = L'.length) := by rw [← hLs, vals_length]; rfl
  have HF3 := hid hf3
  have hs3 := hf3.size
  have hs1 := HF1.out.size
  -- what stands in a world that has turned the counter alone
  have HK := hid (fun (W : World) (hf : Fr w3 W (fun b => b = w1.heap.size + 1 + 1)) => (show W.cell? ⟨w1.heap.size, 0, none⟩ = some (.slice aok L'.length capk) ∧ W.cell? ⟨w1.heap.size + 1, 0, none⟩ = some (.slice aov L'.length capv) ∧ W.cell? ⟨w.heap.size, 0, none⟩ = some (.bool false) ∧ W.frozen? ⟨w.heap.size, 0, none⟩ = false ∧ w.heap.size < W.heap.size ∧ w1.heap.size + 1 < W.heap.size ∧ W.ownsRow w0.heap.size 9 1 (.slice aok L'.length capk) L'.length (kvs L') ∧ W.ownsRow w0.heap.size 3 1 (.slice aov L'.length capv) L'.length (vvs L') from by
    have hsw := hf.size
    have hlw1 : w.heap.size < w1.heap.size := by have := HSI.out.fr.size; omega
    have a0 := (hf.block _ (by omega) (by omega)).trans ((HF3.out.block _ (lt_of_block HX0.out) (fun h => h)).trans HX0.out)
    have a1 := (hf.block _ (by omega) (by omega)).trans ((HF3.out.block _ (lt_of_block HX1.out) (fun h => h)).trans HX1.out)
    have a2 := (hf.block w.heap.size (by omega) (by omega)).trans ((HF3.out.block w.heap.size (by omega) (fun h => h)).trans ((HF2.out.block w.heap.size hlw1 (fun h => h)).trans HB1.out))
    have hko := HSI.out.ko
    rw [kvs_length] at hko
    have hvo := HSI.out.vo
    rw [vvs_length] at hvo
    have o1 := own_fr (own_fr (own_fr hko HF2.out (fun _ _ h => h)) HF3.out (fun _ _ h => h)) hf (fun k hk e => by have := (hko.lt k hk).2; omega)
    have o2 := own_fr (own_fr (own_fr hvo HF2.out (fun _ _ h => h)) HF3.out (fun _ _ h => h)) hf (fun k hk e => by have := (hvo.lt k hk).2; omega)
    exact ⟨cell_of_one a0, cell_of_one a1, cell_of_one a2, free_of_one a2, lt_of_block a2, lt_of_block a1, o1, o2⟩))
  have hX3 := (HF3.out.block _ (lt_of_block HX2.out) (fun h => h)).trans HX2.out
  have HX3 := hid hX3
  have HNM := hid (show N ≠ w1.heap.size + 1 + 1 ∧ S ≠ w1.heap.size + 1 + 1 ∧ w1.heap.size + 1 + 1 < w3.heap.size ∧ w.heap.size < w1.heap.size by have := HSI.out.fr.size; omega)
  have hNM := HNM.out
  clear hq hq0 hp hsr hf3 hLs hX3
  go_wp2_with fail
  refine (wpIn_wide (n := 3)).1 ?_
  refine wpIn_rangeFunc_ownG rfl (by decide) (gf := 68) (lb := #[.pointer (some ⟨N, 0, none⟩)]) rfl trivial (enters_of Try.func68 (by kernel_rfl) rfl)
    (seq_stops Fence.wide 2 trivial rfl (by decide) N S cap Ls w3 HQ.out) (fun h k => fun z => k (h z)) (fun W l o o' _ hl ho _ => fun z => z.putObj o' hl ho) (Below.refl _ _) (fun _ => rfl)
    (fun pre W => pre <+: Ls ∧ Fr w3 W (fun b => b = w1.heap.size + 1 + 1) ∧ W.heap[w1.heap.size + 1 + 1]? = some (.cells #[.int .i64 (pre.length : Int)] 3 (0, 0)))
    (fun _ pre _ => ¬ pre <+: Ls)
    ?own (fun _ _ _ _ _ hs _ _ => hs)
    ⟨List.nil_prefix, Fr.refl _ _, HX3.out⟩ ?a1 ?assign ?body ?done ?stop
  case own =>
    rintro pre W W' row ⟨h1, h2, h3⟩ hg hr
    refine ⟨h1, h2.grown hg (fun k hk e => by have := (hr k e).1; omega), ?_⟩
    rw [hg.block _ (lt_of_block h3) (fun e => by have := (hr _ e.symm).1; omega)]
    exact h3
  case assign =>
    intro l x W K hK
    unfold encO encV
    gi_wp2
    exact hK
  case body =>
    rintro l pre ⟨⟨key, v⟩, hP⟩ W ⟨hpre, hfW, hn⟩ hlt
    obtain ⟨d0, d1, d2, d3, d4, d5, o1, o2⟩ := HK.out W hfW
    have dn := cell_of_one hn
    have df := free_of_one hn
    have dl := lt_of_block hn
    have HN := hid hn
    have hjl : pre.length < L'.length := by rw [← HlL.out]; exact hlt
    obtain ⟨g1, cap1, e1, _, hg1⟩ := own_some o1 (by omega)
    simp only [Value.slice.injEq, true_and] at e1
    obtain ⟨rfl, rfl⟩ := e1
    obtain ⟨g2, cap2, e2, _, hg2⟩ := own_some o2 (by omega)
    simp only [Value.slice.injEq, true_and] at e2
    obtain ⟨rfl, rfl⟩ := e2
    have ck := (ownv_cell o1 pre.length (.string (L'.getD pre.length ez).1) (by unfold kvs; simp [List.getElem?_eq_getElem hjl])).1
    have cv := (ownv_cell o2 pre.length (.int .i64 (L'.getD pre.length ez).2) (by unfold vvs; simp [List.getElem?_eq_getElem hjl])).1
    have t0 : (0 : Int) ≤ (pre.length : Int) := by omega
    have t1 : (pre.length : Int) < (L'.length : Int) := by omega
    have tb : (pre.length : Int) < 2199023255552 := by omega
    have tg : decide ((L'.length : Int) ≤ (pre.length : Int)) = false := by simp; omega
    have tg' : decide (L'.length ≤ pre.length) = false := by simp; omega
    have tg2 : ¬ L'.length ≤ pre.length := by omega
    have HPre := hid hpre
    have HFW := hid hfW
    have HGd : Hid (∀ x : EO (fun _ : En => True), (pre ++ [x]) <+: Ls ↔ x.1 = L'.getD pre.length ez) := by
      intro x
      have hjs : pre.length < Ls.length := hlt
      have hge : L'.getD pre.length ez = (Ls[pre.length]).1 := by
        rw [← HLs.out]
        exact eo_get (List.getElem?_eq_getElem hjs)
      have htk : pre = Ls.take pre.length := List.prefix_iff_eq_take.1 HPre.out
      constructor
      · intro h1
        obtain ⟨t, ht⟩ := h1
        rw [hge]
        have : Ls[pre.length]? = some x := by rw [← ht]; simp
        rw [List.getElem?_eq_getElem hjs] at this
        rw [Option.some.inj this]
      · intro h1
        rw [hge] at h1
        have h2 : x = Ls[pre.length] := Subtype.ext h1
        rw [h2]
        have h3 := eg_take (List.getElem?_eq_getElem hjs)
        rw [← htk] at h3
        rw [← h3]
        exact List.take_prefix _ _
    clear o1 o2 hpre hfW hn
    dsimp only
    generalize hkj : L'.getD pre.length ez = xj at *
    obtain ⟨kj, vj⟩ := xj
    dsimp only at ck cv
    clear hkj hs0 hs2 hs3 hs1 hNM hN hS hlt hjl hsl
    by_cases hk : key = kj
    · subst hk
      by_cases hv : v = vj
      · subst hv
        gi_wp2_with fail
        have hM := HNM.out
        refine ⟨⟨by simp [World.setCell], fun k o hB hk ho => by rw [Below.heap_setCell _ _ _ _ (by show k ≠ w1.heap.size + 1 + 1; omega)]; exact hk⟩, fun z => z.fr (set_fr W ⟨w1.heap.size + 1 + 1, 0, none⟩ _) hM.1 hM.2.1, (HGd.out ⟨(key, v), hP⟩).2 rfl, HFW.out.trans2 (set_fr W ⟨w1.heap.size + 1 + 1, 0, none⟩ _) (fun _ _ e => e), ?_⟩
        rw [show (((pre ++ [(⟨(key, v), hP⟩ : EO (fun _ : En => True))]).length : Nat) : Int) = (pre.length : Int) + 1 by simp]
        exact one_setCell HN.out
      · have t2 : (v == vj) = false := by simpa using hv
        have HV := hid hv
        have t4 : (v != vj) = true := by simpa using hv
        clear hv t2
        gi_wp2_with fail
        have hM := HNM.out
        exact ⟨⟨by simp [World.setCell], fun k o hB hk ho => by rw [Below.heap_setCell _ _ _ _ (by show k ≠ w.heap.size; omega)]; exact hk⟩, fun hp => HV.out (congrArg Prod.snd ((HGd.out _).1 hp))⟩
    · have t2 : (key.toList == kj.toList) = false := key_ne hk
      gi_wp2_with fail
      have hM := HNM.out
      exact ⟨⟨by simp [World.setCell], fun k o hB hk ho => by rw [Below.heap_setCell _ _ _ _ (by show k ≠ w.heap.size; omega)]; exact hk⟩, fun hp => hk (congrArg Prod.fst ((HGd.out _).1 hp))⟩
  case done =>
    rintro D ys W hD rfl ⟨_, hfW, hn⟩ hK
    obtain ⟨d0, d1, d2, d3, d4, d5, o1, o2⟩ := HK.out W hfW
    have dn := cell_of_one hn
    have dl := lt_of_block hn
    have hM := HNM.out
    rw [HlL.out] at dn
    have HFW := hid hfW
    have HKD := hid hK
    clear o1 o2 hfW hn hK
    show Exit.inBlock 0 (Exit.then _ _) Exit.normal _ _
    go_wp2_with fail
    have hDw : w.heap.size < D := by omega
    have hK2 : (W.setCell ⟨w.heap.size, 0, none⟩ (.bool true)).heap[D]? = some (.deferred (some [])) := by
      rw [Below.heap_setCell _ _ _ _ (by show D ≠ w.heap.size; omega)]
      exact HKD.out
    have HWf : Hid (Fr w (W.setCell ⟨w.heap.size, 0, none⟩ (.bool true)) (fun _ => False)) := by
      have h1 : Fr w W (fun _ => False) := ((HF1.out.trans HF2.out).trans HF3.out).trans2 HFW.out (fun b hb e => by omega)
      exact h1.setCell (p := ⟨w.heap.size, 0, none⟩) (fun h => by have h9 : w.heap.size < w.heap.size := h; omega) _
    refine ⟨by simp, .inl ⟨_, _, rfl, run_takeDeferred hK2, ?_⟩⟩
    have hg := grownBy_putObj' (W.setCell ⟨w.heap.size, 0, none⟩ (.bool true)) D (.deferred none)
    have hFz : Fr w ((W.setCell ⟨w.heap.size, 0, none⟩ (.bool true)).putObj D (.deferred none)) (fun _ => False) := HWf.out.grown hg (fun k hk e => by cases e; omega)
    have hcl : ((W.setCell ⟨w.heap.size, 0, none⟩ (.bool true)).putObj D (.deferred none)).cell? ⟨w.heap.size, 0, none⟩ = some (.bool true) := by
      rw [World.cell?_of_block (w := W.setCell ⟨w.heap.size, 0, none⟩ (.bool true)) (a := ⟨w.heap.size, 0, none⟩) (hg.block w.heap.size (by simp [World.setCell]; exact d4) (fun e => by cases e; omega))]
      exact World.cell?_setCell_same W _ _ d2
    exact ⟨.bool true, by simp [results, Try.results22, go_sem, hcl], rfl, hFz⟩
  case stop =>
    rintro D c pre W _ h1 h _
    exact absurd h1 h
end Go.Proofs.Ytobigmcklecbnaa
