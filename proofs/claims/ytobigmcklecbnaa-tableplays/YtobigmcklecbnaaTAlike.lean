/- alike: two tables that stand alike: a walk. -/
import Derived.Test.YtobigmcklecbnaaTAll
import Derived.Test.YtobigmcklecbnaaTKnown
namespace Go.Proofs.Ytobigmcklecbnaa
open Go.RowKit Go.Shelf

attribute [local go_sem] Oper.semAt_some

theorem ents_mem {r : List Pl} (hV : Vok r) {e : En} (h : e ∈ ents r) : Ent r e.1 (.int .i64 e.2) ∧ e.1.size ≤ 9223372036854775807 := by
  unfold ents at h
  obtain ⟨p, hp, rfl⟩ := List.mem_map.1 h
  rw [List.mem_filter] at hp
  obtain ⟨i, hi, hpi⟩ := List.mem_iff_getElem.1 hp.1
  have h1 : p.st = 1 := by simpa using hp.2
  obtain ⟨hv, hs⟩ := hV i hi
  rw [at_get hi, hpi] at hv hs
  refine ⟨⟨i, hi, ?_⟩, hs⟩
  rw [at_get hi, hpi]
  have hx := xOf_eq hv
  obtain ⟨st, key, val⟩ := p
  simp only at h1 hx ⊢
  rw [h1, ← hx]
/-- What is known of the entries of a table. -/
def EP (T : Tb) (e : En) : Prop := Has T e.1 (.int .i64 e.2) ∧ e.1.size ≤ 9223372036854775807
theorem entT_mem {w : World} {B gr : Nat} {ge : Option Nat} {T : Tb} (h : TbAt w B gr ge T) {e : En} (he : e ∈ entT T) : EP T e := by
  rcases List.mem_append.1 he with he | he
  · have := ents_mem h.rok he
    exact ⟨Or.inl this.1, this.2⟩
  · have := ents_mem h.eok he
    exact ⟨Or.inr this.1, this.2⟩

theorem cells1 {w : World} {N : Nat} {a : Value} {e : TypeId} (h : w.heap[N]? = some (.cells #[a] e (0, 0))) : w.cell? ⟨N, 0, none⟩ = some a := cell_of_one h

set_option maxHeartbeats 1000000 in
set_option maxRecDepth 100000 in
theorem alike_any {B gr B2 gr2 : Nat} {ge ge2 : Option Nat} {T : Tb} (w : World) (h : TbAt w B gr ge T) (h2 : TbAt w B2 gr2 ge2 T) :
    Calls Try.prog 40 #[.pointer (some ⟨B, 0, none⟩), .pointer (some ⟨B2, 0, none⟩)] w fun e w' => e = .returned (.bool true) ∧ Fr w w' (fun _ => False) := by
  have hlt := h.lt
  have hlt2 := h2.lt
  obtain ⟨w3, hw3⟩ : ∃ w3, ((w.alloc (.cells #[.pointer (some ⟨B, 0, none⟩)] 31)).alloc (.cells #[.pointer (some ⟨B2, 0, none⟩)] 31)).alloc (.cells #[.bool false] 4) = w3 := ⟨_, rfl⟩
  have HF3 : Hid (Fr w w3 (fun _ => False)) := by rw [← hw3]; exact ((alloc_fr w _ _).alloc _).alloc _
  have hs3 : w3.heap.size = w.heap.size + 3 := by rw [← hw3]; simp
  have hk1 : w3.heap[w.heap.size]? = some (.cells #[.pointer (some ⟨B, 0, none⟩)] 31 (0, 0)) := by
    rw [← hw3, Below.heap_alloc _ _ _ (by simp; omega), Below.heap_alloc _ _ _ (by simp)]
    exact heap_last _ _ _ rfl
  have hk2 : w3.heap[w.heap.size + 1]? = some (.cells #[.pointer (some ⟨B2, 0, none⟩)] 31 (0, 0)) := by
    rw [← hw3, Below.heap_alloc _ _ _ (by simp)]
    exact heap_last _ _ _ (by simp)
  have hk3 : w3.heap[w.heap.size + 1 + 1]? = some (.cells #[.bool false] 4 (0, 0)) := by
    rw [← hw3]
    exact heap_last _ _ _ (by simp)
  have HK := hid (fun (W : World) (hf : Fr w3 W (fun _ => False)) => (show W.cell? ⟨w.heap.size, 0, none⟩ = some (.pointer (some ⟨B, 0, none⟩)) ∧ W.cell? ⟨w.heap.size + 1, 0, none⟩ = some (.pointer (some ⟨B2, 0, none⟩)) ∧ W.cell? ⟨w.heap.size + 1 + 1, 0, none⟩ = some (.bool false) ∧ W.frozen? ⟨w.heap.size + 1 + 1, 0, none⟩ = false ∧ w.heap.size + 1 + 1 < W.heap.size from by
    have a1 := (hf.block _ (lt_of_block hk1) (fun h => h)).trans hk1
    have a2 := (hf.block _ (lt_of_block hk2) (fun h => h)).trans hk2
    have a3 := (hf.block _ (lt_of_block hk3) (fun h => h)).trans hk3
    exact ⟨cell_of_one a1, cell_of_one a2, cell_of_one a3, free_of_one a3, lt_of_block a3⟩))
  have HT := hid (fun (W : World) (hf : Fr w3 W (fun _ => False)) => (h.step HF3.out).step hf)
  have HU := hid (fun (W : World) (hf : Fr w3 W (fun _ => False)) => (h2.step HF3.out).step hf)
  have HL : Hid (∀ (W : World) (p : Nat), (p = B ∨ p = B2) → Fr w3 W (fun _ => False) → Calls Try.prog 36 #[.pointer (some ⟨p, 0, none⟩)] W fun e w' => e = .returned (.int .i64 (T.keys : Int)) ∧ Fr w3 w' (fun _ => False)) := by
    rintro W p (rfl | rfl) hf
    · exact (len_any W (HT.out W hf)).mono (by rintro e w' ⟨rfl, rfl⟩; exact ⟨rfl, hf⟩)
    · exact (len_any W (HU.out W hf)).mono (by rintro e w' ⟨rfl, rfl⟩; exact ⟨rfl, hf⟩)
  have HS : Hid (∀ (W : World) (p : Nat), (p = B ∨ p = B2) → Fr w3 W (fun _ => False) → Calls Try.prog 32 #[.pointer (some ⟨p, 0, none⟩)] W fun e w' => e = .returned (.int .i64 (T.row.length : Int)) ∧ Fr w3 w' (fun _ => False)) := by
    rintro W p (rfl | rfl) hf
    · exact (slots_any W (HT.out W hf)).mono (by rintro e w' ⟨rfl, rfl⟩; exact ⟨rfl, hf⟩)
    · exact (slots_any W (HU.out W hf)).mono (by rintro e w' ⟨rfl, rfl⟩; exact ⟨rfl, hf⟩)
  have HE : Hid (∀ (W : World) (p : Nat), (p = B ∨ p = B2) → Fr w3 W (fun _ => False) → Calls Try.prog 34 #[.pointer (some ⟨p, 0, none⟩)] W fun e w' => e = .returned (.int .i64 (T.left : Int)) ∧ Fr w3 w' (fun _ => False)) := by
    rintro W p (rfl | rfl) hf
    · exact (left_any W (HT.out W hf)).mono (by rintro e w' ⟨rfl, hf2⟩; exact ⟨rfl, hf.trans hf2⟩)
    · exact (left_any W (HU.out W hf)).mono (by rintro e w' ⟨rfl, hf2⟩; exact ⟨rfl, hf.trans hf2⟩)
  have HAll := hid (fun (W : World) (hf : Fr w3 W (fun _ => False)) => all_any W (HT.out W hf))
  have HEp := hid (fun (e : En) (he : e ∈ entT T) => entT_mem h he)
  clear h h2 hk1 hk2 hk3
  refine (callsIn_wide (n := 3)).1 ?_
  refine callsIn_of_wp_marks Try.func40 rfl trivial ?_ rfl
  simp only [Try.ntmps40, List.size_toArray, List.length_cons, List.length_nil, Nat.reduceAdd, Nat.reduceSub, Array.replicate_succ, Array.replicate_zero, List.push_toArray, List.append_toArray, List.nil_append, List.cons_append]
  refine wpIn_wide.2 ?_
  go_wp2_with fail
  have HF := hid (Fr.refl w3 (fun _ => False))
  clear hw3
  first
    | go_region_held3 (fun W' => Hid (Fr w3 W' (fun _ => False)) ∧ W'.cell? ⟨w.heap.size, 0, none⟩ = some (.pointer (some ⟨B, 0, none⟩)) ∧ W'.cell? ⟨w.heap.size + 1, 0, none⟩ = some (.pointer (some ⟨B2, 0, none⟩)))
        ((refine (fun h => ⟨h, (HK.out _ h).1, (HK.out _ h).2.1⟩ : Fr w3 _ (fun _ => False) → _) ?_; repeat (first | exact HF.out | apply Fr.drewN | apply Fr.drew)))
        ((first
          | (go_at_call 36; refine (HL.out _ _ (by first | exact Or.inl rfl | exact Or.inr rfl) (by repeat (first | exact HF.out | apply Fr.drewN | apply Fr.drew))).mono ?_; rintro e w4 ⟨rfl, hf4⟩; have HF := hid hf4; clear hf4)
          | (go_at_call 32; refine (HS.out _ _ (by first | exact Or.inl rfl | exact Or.inr rfl) (by repeat (first | exact HF.out | apply Fr.drewN | apply Fr.drew))).mono ?_; rintro e w4 ⟨rfl, hf4⟩; have HF := hid hf4; clear hf4)
          | (go_at_call 34; refine (HE.out _ _ (by first | exact Or.inl rfl | exact Or.inr rfl) (by repeat (first | exact HF.out | apply Fr.drewN | apply Fr.drew))).mono ?_; rintro e w4 ⟨rfl, hf4⟩; have HF := hid hf4; clear hf4)))
    | fail
  obtain ⟨d1, d2, d3, d4, d5⟩ := HK.out _ HF.out
  clear HL HS HE
  go_wp2_with fail
  refine (HAll.out _ HF.out).mono ?_
  rintro e w5 ⟨N, rfl, S, cap, L, hN, hS, hq, hp, _, hf5⟩
  have HF5 := hid (HF.out.trans hf5)
  have hLe : ∀ e ∈ L, EP T e := fun e he => HEp.out e (hp.subset he)
  obtain ⟨Ls, hLs⟩ := lift_eo hLe
  rw [← hLs] at hq
  have HQ := hid hq
  clear hq hp hLe hf5 hLs d1 d2 d3 d4 d5
  go_wp2_with fail
  refine (wpIn_wide (n := 3)).1 ?_
  have HGet : Hid (∀ (W : World) (key : ByteArray) (v : Int), Fr w5 W (fun _ => False) → EP T (key, v) → Calls Try.prog 38 #[.pointer (some ⟨B2, 0, none⟩), .string key] W fun e w' => e = .returned (.tuple #[.int .i64 v, .bool true]) ∧ w' = W) := fun W key v hf hP => by
    have h1 := get_any key W (HU.out W (HF5.out.trans hf)) hP.2
    rw [get_has _ (HU.out W (HF5.out.trans hf)).inv hP.1] at h1
    exact h1
  have HPl : Hid (∀ (W : World) (p : Nat) (key : ByteArray) (v : Int), (p = B ∨ p = B2) → Fr w5 W (fun _ => False) → EP T (key, v) → Calls Try.prog 49 #[.pointer (some ⟨p, 0, none⟩), .string key] W fun e w' => e = .returned (.tuple #[.int .i64 ((placeT T key).1 : Int), .bool (placeT T key).2.1, .bool (placeT T key).2.2]) ∧ w' = W) := by
    rintro W p key v (rfl | rfl) hf hP
    · exact place_any key W (HT.out W (HF5.out.trans hf)) hP.2
    · exact place_any key W (HU.out W (HF5.out.trans hf)) hP.2
  refine wpIn_rangeFunc_ownG rfl (by decide) (gf := 68) (lb := #[.pointer (some ⟨N, 0, none⟩)]) rfl trivial (enters_of Try.func68 (by kernel_rfl) rfl)
    (seq_stops Fence.wide 2 trivial rfl (by decide) N S cap Ls w5 HQ.out) (fun h k => fun z => k (h z)) (fun W l o o' _ hl ho _ => fun z => z.putObj o' hl ho) (Below.refl _ _) (fun _ => rfl)
    (fun _ W => Below w5.heap.size w5 W)
    (fun _ _ _ => False)
    (ownFrom_below (Nat.le_refl _) (Nat.le_refl _))
    (fun _ _ _ _ _ hs _ _ => hs)
    (Below.refl _ _) ?a1 ?assign ?body ?done ?stop
  case assign =>
    intro l x W K hK
    unfold encO encV
    gi_wp2
    exact hK
  case body =>
    rintro l pre ⟨⟨key, v⟩, hP⟩ W hB hlt
    have hfW : Fr w5 W (fun _ => False) := Fr.ofBelow hB
    obtain ⟨d1, d2, d3, d4, d5⟩ := HK.out W (HF5.out.trans hfW)
    have HFW := hid hfW
    have HPp := hid hP
    dsimp only
    clear hfW
    generalize hpl : placeT T key = pl at *
    clear hpl
    gi_wp2_with (refine ⟨trivial, ?_⟩; first
      | (gi_at_call 38; refine (CallsIn.inRound l (callsIn_wide.2 (HGet.out W key v HFW.out HPp.out))).mono ?_; rintro e' w' ⟨rfl, hw'⟩; have hw' := hw'.symm; subst hw')
      | (gi_at_call 49; refine (CallsIn.inRound l (callsIn_wide.2 (HPl.out W _ key v (by first | exact Or.inl rfl | exact Or.inr rfl) HFW.out HPp.out))).mono ?_; rintro e' w' ⟨rfl, hw'⟩; have hw' := hw'.symm; subst hw'))
    exact ⟨KeepsFrom.refl _ _, fun z => z, hB⟩
  case done =>
    rintro D ys W hD rfl hB hK
    have hfW : Fr w5 W (fun _ => False) := Fr.ofBelow hB
    obtain ⟨d1, d2, d3, d4, d5⟩ := HK.out W (HF5.out.trans hfW)
    have HFW := hid (HF5.out.trans hfW)
    clear hfW
    show Exit.inBlock 0 (Exit.then _ _) Exit.normal _ _
    go_wp2_with fail
    have hDw : w.heap.size + 1 + 1 < D := by have := HF5.out.size; omega
    have hK2 : (W.setCell ⟨w.heap.size + 1 + 1, 0, none⟩ (.bool true)).heap[D]? = some (.deferred (some [])) := by
      rw [Below.heap_setCell _ _ _ _ (by show D ≠ w.heap.size + 1 + 1; omega)]
      exact hK
    have HK2 := hid hK2
    have HWf : Hid (Fr w (W.setCell ⟨w.heap.size + 1 + 1, 0, none⟩ (.bool true)) (fun _ => False)) := (HF3.out.trans HFW.out).setCell (p := ⟨w.heap.size + 1 + 1, 0, none⟩) (fun h => by have h9 : w.heap.size + 1 + 1 < w.heap.size := h; omega) _
    refine ⟨by simp, .inl ⟨_, _, rfl, run_takeDeferred hK2, ?_⟩⟩
    have hg := grownBy_putObj' (W.setCell ⟨w.heap.size + 1 + 1, 0, none⟩ (.bool true)) D (.deferred none)
    have hFz : Fr w ((W.setCell ⟨w.heap.size + 1 + 1, 0, none⟩ (.bool true)).putObj D (.deferred none)) (fun _ => False) := HWf.out.grown hg (fun k hk e => by cases e; omega)
    have hcl : ((W.setCell ⟨w.heap.size + 1 + 1, 0, none⟩ (.bool true)).putObj D (.deferred none)).cell? ⟨w.heap.size + 1 + 1, 0, none⟩ = some (.bool true) := by
      rw [World.cell?_of_block (w := W.setCell ⟨w.heap.size + 1 + 1, 0, none⟩ (.bool true)) (a := ⟨w.heap.size + 1 + 1, 0, none⟩) (hg.block (w.heap.size + 1 + 1) (by simp [World.setCell]; exact d5) (fun e => by cases e; omega))]
      exact World.cell?_setCell_same W _ _ d3
    exact ⟨.bool true, by simp [results, Try.results40, go_sem, hcl], rfl, hFz⟩
  case stop =>
    rintro D c pre W _ _ h _
    exact h.elim
end Go.Proofs.Ytobigmcklecbnaa
