/- flow.ring: move: a walk. -/
import Derived.Test.YtlgbciibhmcokaaXMoveRI
namespace Go.Proofs.Ytlgbciibhmcokaa.RI
open Go.RowKit

/-- The longer row's length. -/
def maxN (n : Nat) : Nat := if 2 * n < 4 then 4 else 2 * n
def newN (n most : Nat) : Nat := if most < maxN n then most else maxN n
theorem newN_lt {n most : Nat} (h : n < most) : n < newN n most := by unfold newN maxN; split <;> split <;> omega
theorem newN_le {n most : Nat} : newN n most ≤ most := by unfold newN maxN; split <;> split <;> omega
/-- What move leaves. -/
structure MV (w : World) (b : Nat) (T : TypeId) (A C : List Value) (v : Value) (st cnt most : Nat) (w' : World) : Prop where
  rb : RB w' b T A C v st cnt most
  fr : Fr w w' (fun k => k = b)
set_option maxHeartbeats 4000000 in
theorem move_row {w : World} {b : Nat} {T : TypeId} {A C : List Value} {st most o g : Nat} {R : List It} (hb : RB w b T A C (.slice (some ⟨g, 0, none⟩) R.length R.length) st R.length most) (ho : A.length = o) (hR : Row elI 33 w g R []) (hst : st < R.length) (hmost : R.length < most) (hm6 : most ≤ 65536) (hgb : g ≠ b) : Calls Try.prog 44 #[.pointer (some ⟨b, o, none⟩)] w fun e w' => e = .returned (.tuple #[]) ∧ ∃ G N, RB w' b T A C (.slice (some ⟨G, 0, none⟩) (newN R.length most) (newN R.length most)) 0 R.length most ∧ Row elI 33 w' G (R.drop st ++ R.take st ++ N) [] ∧ (R.drop st ++ R.take st ++ N).length = newN R.length most ∧ w.heap.size ≤ G ∧ Fr w w' (fun k => k = b) := by
  obtain ⟨c0, c1, c2, c3⟩ := hb.cells ho
  have hbl := hb.lt
  have HB := hid hb
  have HR := hid hR
  have HGB := hid hgb
  have hn1 := newN_lt hmost
  have hn2 : newN R.length most ≤ 65536 := Nat.le_trans newN_le hm6
  have HMK : Hid (∀ (W : World) (X : Int), X = ((newN R.length most : Nat) : Int) → (Instr.makeSlice 45 (.int .i64 X) (.int .i64 X)).run Try.prog W = .ok (.slice (some ⟨W.heap.size, 0, none⟩) (newN R.length most) (newN R.length most)) (W.alloc (.cells (fl elI (List.replicate (newN R.length most) it0)).toArray 33))) := fun W X hX => by rw [hX]; exact run_make_el W _ hn2
  have HMX : Hid ((if (most : Int) < (if 2 * (R.length : Int) < 4 then (4 : Int) else 2 * (R.length : Int)) then (most : Int) else (if 2 * (R.length : Int) < 4 then (4 : Int) else 2 * (R.length : Int))) = ((newN R.length most : Nat) : Int)) := by
    have a1 : (if 2 * (R.length : Int) < 4 then (4 : Int) else 2 * (R.length : Int)) = ((maxN R.length : Nat) : Int) := by unfold maxN; split <;> split <;> omega
    show _ = _
    rw [a1]
    unfold newN
    split <;> split <;> omega
  have t1 : (st : Int) ≤ (R.length : Int) := by omega
  have t2 : ¬ R.length = st := by omega
  have t3 : ¬ (newN R.length most) = R.length - st := by omega
  have t4 : ((R.length - st : Nat) : Int) ≤ ((newN R.length most : Nat) : Int) := by omega
  have t5 : (0 : Int) ≤ ((R.length - st : Nat) : Int) := by omega
  have t6 : (0 : Int) ≤ (st : Int) := by omega
  have HX1 : Hid ((List.replicate (newN R.length most) it0).length = newN R.length most) := by show _ = _; simp
  have hMK := HMK.out
  have hmk := fun W => hMK W _ HMX.out
  have HST := hid hst
  clear HMX HMK hMK hb hR
  generalize newN R.length most = nn at *
  generalize hRn : R.length = n at *
  have HN := hid hRn
  have HL := hid (And.intro hn1 hn2)
  clear hRn
  have HW1 : Hid (∀ W, W = (w.alloc (.cells (fl elI (List.replicate nn it0)).toArray 33)).drew → RB W b T A C (.slice (some ⟨g, 0, none⟩) n n) st n most ∧ Row elI 33 W g R [] ∧ Row elI 33 W w.heap.size (List.replicate nn it0) [] ∧ Fr w W (fun _ => False)) := fun W hW => by
    subst hW
    have hf := (alloc_fr w (.cells (fl elI (List.replicate nn it0)).toArray 33) (fun _ => False)).drew
    refine ⟨HB.out.fr hf (fun h => h), HR.out.fr hf (fun h => h), ?_, hf⟩
    unfold Row
    rw [List.append_nil]
    exact heap_last _ _ _ rfl
  go_enter Try.func44, Try.ntmps44
  go_wp2_with fail
  go_region
  generalize (if 2 * (n : Int) < 4 then (4 : Int) else 2 * (n : Int)) = q1
  generalize (if (most : Int) < q1 then (most : Int) else q1) = q2
  obtain ⟨w1, hw1⟩ : ∃ W, W = (w.alloc (.cells (fl elI (List.replicate nn it0)).toArray 33)).drew := ⟨_, rfl⟩
  obtain ⟨hb1, hR1, hG1, hf1⟩ := HW1.out w1 hw1
  rw [← hw1]
  have HB1 := hid hb1
  have HR1 := hid hR1
  have HG1 := hid hG1
  have HF1 := hid hf1
  have HSZ : Hid (b < w.heap.size ∧ g < w.heap.size) := ⟨HB.out.lt, HR.out.lt⟩
  clear hw1 HW1 hmk hb1 hR1 hG1 hf1
  have HNW := hid (Nat.le_refl w.heap.size)
  generalize hNN : w.heap.size = N at HSZ HG1 ⊢
  replace HNW : Hid (w.heap.size ≤ N) := by show _ ≤ _; omega
  clear hNN
  obtain ⟨c0, c1, c2, c3⟩ := HB1.out.cells ho
  have hbl := HB1.out.lt
  have HS1 : Hid (∀ W : World, Fr w1 W (fun _ => False) → ∀ j v, (fl elI (R.drop st))[j]? = some v → W.cell? ((⟨g, st * 4, none⟩ : Addr).add j) = some v) := fun W hW j v hj => by
    have := row_src (HR1.out.fr hW (fun h => h)) st (R.length - st) (by have := HN.out; have := HST.out; omega) j v
    rw [List.take_of_length_le (by rw [List.length_drop]; omega)] at this
    exact this hj
  have HD : Hid ((R.drop st).length = n - st) := by show _ = _; rw [List.length_drop, HN.out]
  go_wp2_with fail
  go_region_law (refine step_copy rfl (.tmp 17) (.tmp 26) rfl (G := N) (i := 0) (M := List.replicate nn it0) (xs := R.drop st) (dLen := nn) (dCap := nn) (sCap := n - st) (m := n - st) (sp := some ⟨g, st * 4, none⟩) (by simp [Act.eval, Act.put]) (by simp [Act.eval, Act.put]) HD.out (by omega) (fun _ => ⟨_, rfl, HS1.out _ (Fr.refl w1 (fun _ => False)).drew⟩) (HG1.out.fr (Fr.refl w1 (fun _ => False)).drew (fun h => h)) (by rw [HX1.out]; omega) ?_; intro w2 HG2 hf2)
  all_goals
    rw [List.take_zero, List.nil_append, Nat.zero_add] at HG2
    have HF2 : Hid (Fr w w2 (fun _ => False)) := HF1.out.trans2 (Fr.ofDrew hf2) (fun i hi e => by have := HNW.out; omega)
    have HB2 := hid (HB1.out.fr (Fr.ofDrew hf2) (by have := HSZ.out; omega))
    have HR2 := hid (HR1.out.fr (Fr.ofDrew hf2) (by have := HSZ.out; omega))
    have HL2 : Hid ((R.drop st ++ (List.replicate nn it0).drop (n - st)).length = nn) := by
      show _ = _
      rw [List.length_append, List.length_drop, List.length_drop, HX1.out, HN.out]
      omega
    have HS2 : Hid (∀ W : World, Fr w2 W (fun _ => False) → ∀ j v, (fl elI (R.take st))[j]? = some v → W.cell? ((⟨g, 0, none⟩ : Addr).add j) = some v) := fun W hW j v hj => by
      have := row_src (HR2.out.fr hW (fun h => h)) 0 st (by have := HN.out; have := HST.out; omega) j v
      rw [List.drop_zero, Nat.zero_mul] at this
      exact this hj
    have HD2 : Hid ((R.take st).length = st) := by show _ = _; rw [List.length_take, HN.out]; omega
    have HM2 : Hid (∀ m, (R.drop st ++ (List.replicate nn it0).drop (n - st)).take (n - st) ++ (R.take st ++ m) = R.drop st ++ R.take st ++ m) := by
      intro m
      rw [List.take_left' HD.out, List.append_assoc]
    obtain ⟨M2, hM2⟩ : ∃ M2, M2 = R.drop st ++ (List.replicate nn it0).drop (n - st) := ⟨_, rfl⟩
    rw [← hM2] at HG2 HL2 HM2
    have HNL : Hid ((M2.drop (n - st + st)).length = nn - n) := by show _ = _; rw [List.length_drop, HL2.out]; omega
    clear hf2 hM2 HB1 HR1 HG1 HF1 HS1 c0 c1 c2 c3 hbl
    obtain ⟨c0, c1, c2, c3⟩ := HB2.out.cells ho
    have hbl := HB2.out.lt
    have hfb := HB2.out.free
    generalize hk : n - st = k at *
    have HK := hid hk
    clear hk
    go_wp2_with fail
    go_region_law (refine step_copy rfl (.tmp 30) (.tmp 39) rfl (G := N) (i := k) (M := M2) (xs := R.take st) (dLen := nn - k) (dCap := nn - k) (sCap := n) (m := st) (sp := some ⟨g, 0, none⟩) (by simp [Act.eval, Act.put]) (by simp [Act.eval, Act.put]) HD2.out (by have := HK.out; omega) (fun _ => ⟨_, rfl, HS2.out _ (Fr.refl w2 (fun _ => False)).drew⟩) (HG2.out.fr (Fr.refl w2 (fun _ => False)).drew (fun h => h)) (by rw [HL2.out]; have := HK.out; omega) ?_; intro w3 HG3 hf3)
    all_goals
      have HF3 : Hid (Fr w w3 (fun _ => False)) := HF2.out.trans2 (Fr.ofDrew hf3) (fun i hi e => by have := HNW.out; omega)
      have HB3 := hid (HB2.out.fr (Fr.ofDrew hf3) (by have := HSZ.out; omega))
      rw [HM2.out] at HG3
      clear hf3 HB2 HR2 HG2 HF2 HS2 c0 c1 c2 c3 hbl hfb
      obtain ⟨c0, c1, c2, c3⟩ := HB3.out.cells ho
      have hbl := HB3.out.lt
      have hfb := HB3.out.free
      go_wp2_with fail
      go_end0
      have h0 := HB3.out.set0 ho (.slice (some ⟨N, 0, none⟩) nn nn)
      have hfx := (set_fr w3 b o (.slice (some ⟨N, 0, none⟩) nn nn)).trans (set_fr _ b (o + 1) (.int .i64 0))
      refine ⟨rfl, N, M2.drop (k + st), h0.set1 ho 0, HG3.out.fr hfx (by have := HSZ.out; omega), ?_, HNW.out, (HF3.out.mono (fun _ _ h => h.elim)).trans hfx⟩
      rw [List.length_append, List.length_append, HNL.out, List.length_drop, List.length_take]
      have h1 := HN.out
      have h2 := HK.out
      omega

set_option maxHeartbeats 4000000 in
theorem move_nil {w : World} {b : Nat} {T : TypeId} {A C : List Value} {most o : Nat} (hb : RB w b T A C (.slice none 0 0) 0 0 most) (ho : A.length = o) (hmost : 0 < most) (hm6 : most ≤ 65536) : Calls Try.prog 44 #[.pointer (some ⟨b, o, none⟩)] w fun e w' => e = .returned (.tuple #[]) ∧ ∃ G N, RB w' b T A C (.slice (some ⟨G, 0, none⟩) (newN 0 most) (newN 0 most)) 0 0 most ∧ Row elI 33 w' G N [] ∧ N.length = newN 0 most ∧ w.heap.size ≤ G ∧ Fr w w' (fun k => k = b) := by
  obtain ⟨c0, c1, c2, c3⟩ := hb.cells ho
  have hbl := hb.lt
  have HB := hid hb
  have hn1 := newN_lt hmost
  have hn2 : newN 0 most ≤ 65536 := Nat.le_trans newN_le hm6
  have HMX : Hid ((if (most : Int) < 4 then (most : Int) else 4) = ((newN 0 most : Nat) : Int)) := by
    show _ = _
    unfold newN maxN
    rw [if_pos (show 2 * 0 < 4 by omega)]
    split <;> split <;> omega
  have hmk : ∀ W : World, (Instr.makeSlice 45 (.int .i64 (if (most : Int) < 4 then (most : Int) else 4)) (.int .i64 (if (most : Int) < 4 then (most : Int) else 4))).run Try.prog W = .ok (.slice (some ⟨W.heap.size, 0, none⟩) (newN 0 most) (newN 0 most)) (W.alloc (.cells (fl elI (List.replicate (newN 0 most) it0)).toArray 33)) := fun W => by rw [HMX.out]; exact run_make_el W _ hn2
  have HX1 : Hid ((List.replicate (newN 0 most) it0).length = newN 0 most) := by show _ = _; simp
  clear HMX hb
  generalize newN 0 most = nn at *
  have t3 : ¬ nn = 0 := by omega
  have t4 : (0 : Int) ≤ (nn : Int) := by omega
  have HW1 : Hid (∀ W, W = (w.alloc (.cells (fl elI (List.replicate nn it0)).toArray 33)).drew → RB W b T A C (.slice none 0 0) 0 0 most ∧ Row elI 33 W w.heap.size (List.replicate nn it0) [] ∧ Fr w W (fun _ => False)) := fun W hW => by
    subst hW
    have hf := (alloc_fr w (.cells (fl elI (List.replicate nn it0)).toArray 33) (fun _ => False)).drew
    refine ⟨HB.out.fr hf (fun h => h), ?_, hf⟩
    unfold Row
    rw [List.append_nil]
    exact heap_last _ _ _ rfl
  go_enter Try.func44, Try.ntmps44
  go_wp2_with fail
  go_region
  generalize (if (most : Int) < 4 then (most : Int) else 4) = q2
  obtain ⟨w1, hw1⟩ : ∃ W, W = (w.alloc (.cells (fl elI (List.replicate nn it0)).toArray 33)).drew := ⟨_, rfl⟩
  obtain ⟨hb1, hG1, hf1⟩ := HW1.out w1 hw1
  rw [← hw1]
  have HB1 := hid hb1
  have HG1 := hid hG1
  have HF1 := hid hf1
  have HSZ : Hid (b < w.heap.size) := HB.out.lt
  clear hw1 HW1 hmk hb1 hG1 hf1
  have HNW := hid (Nat.le_refl w.heap.size)
  generalize hNN : w.heap.size = N at HSZ HG1 ⊢
  replace HNW : Hid (w.heap.size ≤ N) := by show _ ≤ _; omega
  clear hNN
  obtain ⟨c0, c1, c2, c3⟩ := HB1.out.cells ho
  have hbl := HB1.out.lt
  go_wp2_with fail
  go_region_law (refine step_copy rfl (.tmp 17) (.tmp 26) rfl (G := N) (i := 0) (M := List.replicate nn it0) (xs := []) (dLen := nn) (dCap := nn) (sCap := 0) (m := 0) (sp := none) (by simp [Act.eval, Act.put]) (by simp [Act.eval, Act.put]) rfl (by omega) (fun h => absurd h (by omega)) (HG1.out.fr (Fr.refl w1 (fun _ => False)).drew (fun h => h)) (by omega) ?_; intro w2 HG2 hf2)
  all_goals
    have HF2 : Hid (Fr w w2 (fun _ => False)) := HF1.out.trans2 (Fr.ofDrew hf2) (fun i hi e => by have := HNW.out; omega)
    have HB2 := hid (HB1.out.fr (Fr.ofDrew hf2) (by have := HSZ.out; omega))
    have HL2 : Hid ((List.take 0 (List.replicate nn it0) ++ ([] ++ List.drop (0 + 0) (List.replicate nn it0))).length = nn) := by show _ = _; simp
    generalize (List.take 0 (List.replicate nn it0) ++ ([] ++ List.drop (0 + 0) (List.replicate nn it0))) = M2 at *
    clear hf2 HB1 HG1 HF1 c0 c1 c2 c3 hbl
    obtain ⟨c0, c1, c2, c3⟩ := HB2.out.cells ho
    have hbl := HB2.out.lt
    go_wp2_with fail
    go_region_law (refine step_copy rfl (.tmp 30) (.tmp 39) rfl (G := N) (i := 0) (M := M2) (xs := []) (dLen := nn) (dCap := nn) (sCap := 0) (m := 0) (sp := none) (by simp [Act.eval, Act.put]) (by simp [Act.eval, Act.put]) rfl (by omega) (fun h => absurd h (by omega)) (HG2.out.fr (Fr.refl w2 (fun _ => False)).drew (fun h => h)) (by omega) ?_; intro w3 HG3 hf3)
    all_goals
      have HF3 : Hid (Fr w w3 (fun _ => False)) := HF2.out.trans2 (Fr.ofDrew hf3) (fun i hi e => by have := HNW.out; omega)
      have HB3 := hid (HB2.out.fr (Fr.ofDrew hf3) (by have := HSZ.out; omega))
      have HL3 : Hid ((List.take 0 M2 ++ ([] ++ List.drop (0 + 0) M2)).length = nn) := by show _ = _; simpa using HL2.out
      generalize (List.take 0 M2 ++ ([] ++ List.drop (0 + 0) M2)) = M3 at *
      clear hf3 HB2 HG2 HF2 c0 c1 c2 c3 hbl
      obtain ⟨c0, c1, c2, c3⟩ := HB3.out.cells ho
      have hbl := HB3.out.lt
      have hfb := HB3.out.free
      go_wp2_with fail
      go_end0
      have h0 := HB3.out.set0 ho (.slice (some ⟨N, 0, none⟩) nn nn)
      have hfx := (set_fr w3 b o (.slice (some ⟨N, 0, none⟩) nn nn)).trans (set_fr _ b (o + 1) (.int .i64 0))
      exact ⟨rfl, N, M3, h0.set1 ho 0, HG3.out.fr hfx (by have := HSZ.out; omega), HL3.out, HNW.out, (HF3.out.mono (fun _ _ h => h.elim)).trans hfx⟩
end Go.Proofs.Ytlgbciibhmcokaa.RI
