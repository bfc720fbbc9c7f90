/- WireBodies returns true, and its argument reads afterwards as before: for every body that can be read; no further conditions. -/
import Derived.Test.YtfoapnmljnonlaaHead
import Derived.Test.YtfoapnmljnonlaaFrame
import Derived.ProofKit
import Derived.OpenShut
import Derived.SizedLaws
import Derived.Below
namespace Go.Proofs.Ytfoapnmljnonlaa
open Go.ChangeShapes Go.WideShapes Go.ChangeAt Go.RowKit

theorem bodiesOwn : ownKnob Try.prog.godebug = none := by kernel_rfl
theorem bodiesLaid : laidOutB Try.prog = true := by kernel_rfl
theorem Try.cells5 : Try.prog.cellsOf 5 = 1 := by kernel_rfl
theorem Try.bytes5 : Try.prog.bytesOf 5 = 1 := by kernel_rfl

theorem conv8 {W : World} {v : Value} {xs : List Nat} (h : Bs W v xs) : (convert 27 9 v).run Try.prog W = .ok (.string (str8 xs)) W :=
  run_str8 Try.underlying27 Try.underlying5 Try.underlying9 h

set_option maxHeartbeats 1000000 in
set_option maxRecDepth 100000 in
theorem bodies_walk (sv : Value) (xs : List Nat) (w : World) (hs : Bs w sv xs) (hl : xs.length ≤ 140737488355328) :
    Calls Try.prog 5 #[sv] w fun e w' => e = .returned (.bool true) ∧ Below w.heap.size w w' := by
  obtain ⟨ao, cap, rfl⟩ := slice_shape hs
  have Hs : Hid (Bs w (.slice ao xs.length cap) xs) := hs
  clear hs
  go_enter Try.func5, Try.ntmps5
  go_wp2_with fail
  refine (lend_any _ xs w Hs.out hl).mono ?_
  rintro e w1 ⟨rfl, hR1, hf1⟩
  have HR1 : Hid (Row w1 w.heap.size (xs ++ List.replicate 67 169)) := hR1
  have HF1 : Hid (Fr w w1 (fun _ => False)) := hf1
  have hlt1 : w.heap.size < w1.heap.size := hR1.lt
  clear hR1 hf1
  go_wp2_with fail
  refine (frame_any _ xs w1 HR1.out.bs hl).mono ?_
  rintro e w2 ⟨v2, hf2, hp2⟩
  have HF2 : Hid (Fr w1 w2 (fun _ => False)) := hf2
  have hs2 := hf2.size
  clear hf2
  have Hs2 : Hid (Bs w2 (.slice ao xs.length cap) xs) := Hs.out.fr (HF1.out.trans HF2.out) (fun _ _ h => h)
  have HR2 : Hid (Row w2 w.heap.size (xs ++ List.replicate 67 169)) := HR1.out.fr HF2.out (fun h => h)
  rcases hp2 with ⟨h1, h2, rfl, ho2⟩ | ⟨h1, rfl, rfl⟩
  · obtain ⟨ao2, cap2, rfl⟩ := own_nil_shape ho2
    have HO2 : Hid (w2.ownsRow w1.heap.size 5 1 (.slice ao2 (frameB xs).length cap2) (frameB xs).length (by8 (frameB xs))) := ho2
    clear ho2
    go_wp2_with fail
    refine (rframe_any _ xs w2 Hs2.out hl).mono ?_
    rintro e w3 ⟨v3, hf3, hp3⟩
    have HF3 : Hid (Fr w2 w3 (fun _ => False)) := hf3
    have hs3 := hf3.size
    clear hf3
    rcases hp3 with ⟨_, _, rfl, ho3⟩ | ⟨hx, _, _⟩
    · obtain ⟨ao3, cap3, rfl⟩ := own_nil_shape ho3
      have HO3 : Hid (w3.ownsRow w2.heap.size 5 1 (.slice ao3 (frameB xs).length cap3) (frameB xs).length (by8 (frameB xs))) := ho3
      clear ho3
      go_wp2_with fail
      refine (back_any w.heap.size _ xs w3 (HR2.out.fr HF3.out (fun h => h)) (Hs2.out.fr HF3.out (fun _ _ h => h)) hl).mono ?_
      rintro e w4 ⟨rfl, hf4⟩
      have hc1 := conv8 (own_bs (own_fr (own_fr HO2.out HF3.out (fun _ _ h => h)) hf4 (fun k hk h => by have := (HO2.out.lt k hk).1; omega)))
      have hc2 := conv8 (own_bs (own_fr HO3.out hf4 (fun k hk h => by have := (HO3.out.lt k hk).1; omega)))
      have HB4 : Hid (Below w.heap.size w w4) := (((HF1.out.trans HF2.out).trans HF3.out).below (Nat.le_refl _) (fun _ h => h.elim)).trans (hf4.below (by omega) (fun k h => by omega))
      clear hf4
      generalize str8 (frameB xs) = S at hc1 hc2
      go_wp2_with (go_at_call 9; refine (head_any _).mono ?_; rintro e w5 ⟨rfl, hb⟩; have HB5 : Hid (Below w.heap.size w w5) := HB4.out.trans (hb.mono HB4.out.size); clear hb)
      go_ret
      exact ⟨rfl, HB5.out⟩
    · exact absurd ⟨h1, h2⟩ hx
  · go_wp2_with fail
    refine (rframe_any _ xs w2 Hs2.out hl).mono ?_
    rintro e w3 ⟨v3, hf3, hp3⟩
    have HF3 : Hid (Fr w2 w3 (fun _ => False)) := hf3
    have hs3 := hf3.size
    clear hf3
    rcases hp3 with ⟨g1, g2, _, _⟩ | ⟨_, rfl, rfl⟩
    · exact absurd ⟨g1, g2⟩ h1
    · go_wp2_with fail
      refine (back_any w.heap.size _ xs w3 (HR2.out.fr HF3.out (fun h => h)) (Hs2.out.fr HF3.out (fun _ _ h => h)) hl).mono ?_
      rintro e w4 ⟨rfl, hf4⟩
      have hc1 := conv8 (W := w4) (v := .slice none 0 0) (xs := []) (Or.inl ⟨rfl, rfl⟩)
      have HB4 : Hid (Below w.heap.size w w4) := (((HF1.out.trans HF2.out).trans HF3.out).below (Nat.le_refl _) (fun _ h => h.elim)).trans (hf4.below (by omega) (fun k h => by omega))
      clear hf4
      generalize str8 [] = S at hc1
      go_wp2_with (go_at_call 9; refine (head_any _).mono ?_; rintro e w5 ⟨rfl, hb⟩; have HB5 : Hid (Below w.heap.size w w5) := HB4.out.trans (hb.mono HB4.out.size); clear hb)
      go_ret
      exact ⟨rfl, HB5.out⟩

/-- A slice of bytes that came in: its bytes, each below 256. -/
theorem bs_of_ints {W : World} {a : Addr} {len cap : Nat} {zs : List Int} (hl : len ≤ zs.length) (hcell : ∀ i, i < zs.length → W.cell? (a.add i) = some (.int .u8 (zs.getD i 0))) (hwz : ∀ n ∈ zs, (Lit.int .u8 n).wf = true) :
    ∃ xs : List Nat, xs.length = len ∧ (∀ j, xs.getD j 0 < 256) ∧ Bs W (.slice (some a) len cap) xs := by
  have hb : ∀ n ∈ zs, 0 ≤ n ∧ n ≤ 255 := fun n hn => bounds_u8 (hwz n hn)
  have hlen : ((zs.take len).map Int.toNat).length = len := by simp; omega
  refine ⟨(zs.take len).map Int.toNat, hlen, fun j => ?_, Or.inr ⟨a, cap, by rw [hlen], fun j u hu => ?_⟩⟩
  · rcases Nat.lt_or_ge j ((zs.take len).map Int.toNat).length with h | h
    · have hm : ((zs.take len).map Int.toNat).getD j 0 ∈ (zs.take len).map Int.toNat := by
        simp only [List.getD, List.getElem?_eq_getElem h, Option.getD_some]
        exact List.getElem_mem h
      obtain ⟨n, hn, e⟩ := List.mem_map.1 hm
      have := hb n (List.mem_of_mem_take hn)
      omega
    · rw [List.getD, List.getElem?_eq_none h]
      decide
  · have hj : j < len := by
      rcases Nat.lt_or_ge j len with h | h
      · exact h
      · rw [List.getElem?_eq_none (show (by8 ((zs.take len).map Int.toNat)).length ≤ j by rw [by8_length, hlen]; exact h)] at hu
        cases hu
    rw [hcell j (by omega)]
    rw [by8_get _ j (by omega)] at hu
    rw [← hu]
    have hz : zs.getD j 0 = zs[j]'(by omega) := by simp [List.getD, List.getElem?_eq_getElem (show j < zs.length by omega)]
    have h2 : ((zs.take len).map Int.toNat).getD j 0 = (zs[j]'(by omega)).toNat := by
      simp [List.getD, hj, List.getElem?_eq_getElem (show j < zs.length by omega)]
    rw [hz, h2]
    have := hb (zs[j]'(by omega)) (List.getElem_mem _)
    congr 2
    omega

set_option maxRecDepth 100000 in
theorem bodies_lifted (os : Os) (started : os.Started) (H : Type) (enc : TypeId × Value → H) :
    ReturnsInHanded {} Try.checked os 5 .any (Rows.wireBodiesSpec.pre6 enc Try.prog Try.f5 Rows.wireBodiesRow.domain false) (Rows.wireBodiesSpec.post enc Try.prog Try.f5 false true false false) := by
  refine returnsInHanded_of_change_sized (C := Try.checked) bodiesOwn started (by kernel_rfl) Try.func5
    (ChangeSpec.witness6 (enc := enc) (C := Try.checked) false ⟨#[], #[.slice none 0 0], []⟩ 8 (by kernel_rfl) (by kernel_rfl) (by kernel_rfl) (by kernel_rfl)) ?_
  intro W base args ds gs before hval0 hW _ hsz0 _
  have hsz : (DataW.weightsEach Try.prog (Try.f5.params.toList ++ Rows.wireBodiesSpec.plain.varTypes Try.prog) (ds ++ gs)).all (· ≤ reachBytes) = true := hsz0
  clear hsz0
  have hval : ∀ (j : Nat) t v, Try.f5.params[j]? = some t → args[j]? = some v → Value.okWide Try.prog W .any base t v := hval0
  have hW' := hW
  obtain ⟨p, q, hA0, hV, rfl, _, _⟩ := hW
  have hA : DataW.TrodAll enc Try.prog W 0 (fun _ => true) true Try.f5.params.toList args.toList ds p := hA0
  rw [Try.params5] at hA hval hsz
  obtain ⟨v0, d0, rfl, rfl, h0⟩ := trodAll_one hA
  obtain ⟨rfl, rfl⟩ := trodVars_none hV
  obtain ⟨a0, len, cap, rfl⟩ := okWide_slice Try.underlying27 (hval 0 27 v0 rfl rfl)
  have h0k := h0
  have lt0 : ∀ x ∈ p, x.block < W.heap.size := by obtain ⟨m, hm⟩ := h0k; exact DataW.trod_lt m _ _ _ hm
  obtain ⟨xs, hxl, hbs⟩ : ∃ xs : List Nat, xs.length ≤ 140737488355328 ∧ Bs W (.slice a0 len cap) xs := by
    obtain ⟨fuel, hf⟩ := h0
    rcases open_ints Try.underlying27 Try.underlying5 Try.cells5 hf with ⟨hcs, hx⟩ | ⟨a, len', cap', zs, hcs, _, hl, hm, hz, hx, hcell, hwz⟩
    · simp [Value.cells] at hcs
      obtain ⟨rfl, rfl, rfl⟩ := hcs
      exact ⟨[], by simp, Or.inl ⟨rfl, rfl⟩⟩
    · simp [Value.cells] at hcs
      obtain ⟨rfl, rfl, rfl⟩ := hcs
      simp only [Prod.mk.injEq] at hx
      obtain ⟨rfl, _⟩ := hx
      simp only [if_true] at hz
      have hreach : cap * 1 ≤ 140737488351232 := by
        have := sized_slice hsz (j := 0) (t := 27) (e := 5) rfl rfl Try.underlying27
        rw [Try.bytes5] at this
        simp only [lits, List.length_map, List.length_take, List.length_drop, reachBytes] at this
        omega
      obtain ⟨xs, e1, _, e2⟩ := bs_of_ints (a := a) (len := len) (cap := cap) (zs := zs) (by omega) hcell hwz
      exact ⟨xs, by omega, e2⟩
  clear hA0 hval0
  refine (bodies_walk _ xs W hbs hxl).mono fun e W' ⟨he, bel⟩ => ?_
  subst he
  exact ⟨_, rfl, _, _, _, [], _, [], hW', trodAll_mk1 (shut_bool Try.underlying4 _), trodAll_mk1 (Below.trod bodiesLaid (by kernel_rfl) (of_decide_eq_true (by kernel_rfl)) h0k bel lt0), rfl, bel.frame _, fun h => by cases h⟩

theorem bodies_over : Rows.wireBodiesRow.holds Try.pinned (OpenSpec.ofChange Rows.wireBodiesSpec) :=
  OpenClaim.holds_of_wide 5 Try.f5 rfl rfl rfl rfl rfl rfl rfl ⟨rfl, rfl, rfl, rfl, rfl⟩ rfl rfl rfl rfl rfl (by kernel_rfl) Try.func5 (by kernel_rfl)
    (of_decide_eq_true (by kernel_rfl)) (by unfold Func.isWrapper; first | (rw [if_pos (by decide +kernel)]; kernel_rfl) | (rw [if_neg (by decide +kernel)]; exact ⟨rfl, rfl⟩))
    (fun os started H enc _ => bodies_lifted os started H enc)

theorem wireBodies_holds : Rows.WireBodiesSaid := bodies_over
#print axioms wireBodies_holds
end Go.Proofs.Ytfoapnmljnonlaa
