/- The law's lend, kept: walks. -/
import Derived.Test.YtfmhdpenodmblabQSame
import Derived.Laws.MakeOwn
import Derived.Laws.AppendOwnNone
namespace Go.Proofs.Ytfmhdpenodmblab
open Go.RowKit

/-- A nil slice has no room. -/
def Nz (v : Value) : Prop := ∀ n c, v = .slice none n c → c = 0
/-- Views as values. -/
def vc (L : List Vw) : List Value := L.flatMap fun v => [.int .i64 v.s, .int .i64 v.d, .int .i64 v.l]
theorem vc_append (a b : List Vw) : vc (a ++ b) = vc a ++ vc b := by simp [vc]
theorem vc_cons (c : Vw) (L : List Vw) : vc (c :: L) = [.int .i64 c.s, .int .i64 c.d, .int .i64 c.l] ++ vc L := by simp [vc]
theorem vc_length (L : List Vw) : (vc L).length = L.length * 3 := by
  induction L with
  | nil => rfl
  | cons x L ih => rw [vc_cons, List.length_append, ih, List.length_cons]; simp; omega
theorem vc_get {L : List Vw} {i : Nat} (hi : i < L.length) (rest : List Value) : (vc L ++ rest)[i * 3]? = some (.int .i64 (L.getD i vw0).s) ∧ (vc L ++ rest)[i * 3 + 1]? = some (.int .i64 (L.getD i vw0).d) ∧ (vc L ++ rest)[i * 3 + 2]? = some (.int .i64 (L.getD i vw0).l) := by
  have hl : (vc (L.take i)).length = i * 3 := by rw [vc_length, List.length_take]; omega
  have e : L = L.take i ++ (L.getD i vw0) :: L.drop (i + 1) := by
    have h1 : L.getD i vw0 = L[i] := by simp [List.getD, hi]
    rw [h1, List.getElem_cons_drop, List.take_append_drop]
  have e2 : vc L = vc (L.take i) ++ ([.int .i64 (L.getD i vw0).s, .int .i64 (L.getD i vw0).d, .int .i64 (L.getD i vw0).l] ++ vc (L.drop (i + 1))) := by
    conv => lhs; rw [e]
    rw [vc_append, vc_cons]
  rw [e2]
  refine ⟨?_, ?_, ?_⟩
  · rw [List.append_assoc, List.getElem?_append_right (by omega), hl, Nat.sub_self]; rfl
  · rw [List.append_assoc, List.getElem?_append_right (by omega), hl, show i * 3 + 1 - i * 3 = 1 by omega]; rfl
  · rw [List.append_assoc, List.getElem?_append_right (by omega), hl, show i * 3 + 2 - i * 3 = 2 by omega]; rfl
theorem vc_one (L : List Vw) : ∀ u ∈ vc L, u.oneCell' = true := by
  intro u hu
  simp only [vc, List.mem_flatMap] at hu
  obtain ⟨c, _, hc⟩ := hu
  simp at hc
  rcases hc with rfl | rfl | rfl <;> rfl
/-- Block g holds these views, and something behind them. -/
def RowW (w : World) (g : Nat) (L : List Vw) (rest : List Value) : Prop := w.heap[g]? = some (.cells (vc L ++ rest).toArray 53 (0, 0))
theorem RowW.lt {w : World} {g : Nat} {L : List Vw} {rest : List Value} (h : RowW w g L rest) : g < w.heap.size := lt_of_block h
theorem RowW.fr {w w' : World} {S : Nat → Prop} {g : Nat} {L : List Vw} {rest : List Value} (h : RowW w g L rest) (hf : Fr w w' S) (hS : ¬ S g) : RowW w' g L rest := by
  unfold RowW
  rw [hf.block g h.lt hS]
  exact h
theorem RowW.get {w : World} {g : Nat} {L : List Vw} {rest : List Value} (h : RowW w g L rest) {i : Nat} (hi : i < L.length) : w.cell? ⟨g, i * 3, none⟩ = some (.int .i64 (L.getD i vw0).s) ∧ w.cell? ⟨g, i * 3 + 1, none⟩ = some (.int .i64 (L.getD i vw0).d) ∧ w.cell? ⟨g, i * 3 + 2, none⟩ = some (.int .i64 (L.getD i vw0).l) := by
  obtain ⟨h1, h2, h3⟩ := vc_get hi rest
  refine ⟨?_, ?_, ?_⟩
  · rw [cell_of_row w g _ _ _ (0, 0) h]; simpa using h1
  · rw [cell_of_row w g _ _ _ (0, 0) h]; simpa using h2
  · rw [cell_of_row w g _ _ _ (0, 0) h]; simpa using h3
/-- The mark behind what is lent. -/
def mkV : Vw := ⟨-77, 0, 0⟩
/-- What is lent: the views, and a mark behind them. -/
structure Ln (w0 w : World) (v : Value) (vs : List Vw) : Prop where
  at' : ∃ g cap rest, v = .slice (some ⟨g, 0, none⟩) vs.length cap ∧ vs.length + 1 ≤ cap ∧ cap ≤ 9223372036854775807 ∧ w0.heap.size ≤ g ∧ RowW w g (vs ++ [mkV]) rest
theorem Ln.fr {w0 w w' : World} {S : Nat → Prop} {v : Value} {vs : List Vw} (h : Ln w0 w v vs) (hf : Fr w w' S) (hS : ∀ k, v.ownBlock = some k → ¬ S k) : Ln w0 w' v vs := by
  obtain ⟨g, cap, rest, rfl, h1, h2, h3, h4⟩ := h.at'
  exact ⟨g, cap, rest, rfl, h1, h2, h3, h4.fr hf (hS g rfl)⟩
theorem Ln.vs {w0 w : World} {v : Value} {vs : List Vw} (h : Ln w0 w v vs) (hl : vs.length ≤ 100) : Vs w v vs := by
  obtain ⟨g, cap, rest, rfl, h1, h2, h3, h4⟩ := h.at'
  refine ⟨_, _, rfl, by omega, fun _ => ⟨g, 0, rfl, fun i hi => ?_⟩⟩
  have := h4.get (i := i) (by rw [List.length_append]; omega)
  have e : (vs ++ [mkV]).getD i vw0 = vs.getD i vw0 := by simp [List.getD, List.getElem?_append_left hi]
  rw [e] at this
  simpa using this

theorem Try.info_view : (Try.prog.info? 53).map (fun i => (i.zero, i.size, i.bytes)) = some (some (.agg #[.int .i64 0, .int .i64 0, .int .i64 0]), 3, 24) := by kernel_rfl

theorem vs_cells {w : World} {b off : Nat} {vs : List Vw} (h : ∀ i, i < vs.length → w.cell? ⟨b, off + i * 3, none⟩ = some (.int .i64 (vs.getD i vw0).s) ∧ w.cell? ⟨b, off + i * 3 + 1, none⟩ = some (.int .i64 (vs.getD i vw0).d) ∧ w.cell? ⟨b, off + i * 3 + 2, none⟩ = some (.int .i64 (vs.getD i vw0).l)) : ∀ j u, (vc vs)[j]? = some u → w.cell? ((⟨b, off, none⟩ : Addr).add j) = some u := by
  intro j u hj
  have hjl : j < vs.length * 3 := by
    rcases Nat.lt_or_ge j (vs.length * 3) with h | h
    · exact h
    · rw [List.getElem?_eq_none (by rw [vc_length]; exact h)] at hj
      cases hj
  have hq : j / 3 < vs.length := by omega
  obtain ⟨g0, g1, g2⟩ := vc_get hq []
  obtain ⟨k0, k1, k2⟩ := h (j / 3) hq
  rw [List.append_nil] at g0 g1 g2
  rw [Addr.add_lit]
  have hc : j % 3 = 0 ∨ j % 3 = 1 ∨ j % 3 = 2 := by omega
  rcases hc with h | h | h
  · have e : j = j / 3 * 3 := by omega
    rw [e, g0] at hj
    rw [e, ← hj]
    exact k0
  · have e : j = j / 3 * 3 + 1 := by omega
    rw [e, g1] at hj
    rw [e, ← hj]
    exact k1
  · have e : j = j / 3 * 3 + 2 := by omega
    rw [e, g2] at hj
    rw [e, ← hj]
    exact k2

set_option maxHeartbeats 2000000 in
set_option maxRecDepth 100000 in
theorem lend_any {w : World} {v : Value} {vs : List Vw} (h : Vs w v vs) (hz : Nz v) (hl : vs.length ≤ 100) : Calls Try.prog 11 #[v] w fun e w' => ∃ u, e = .returned u ∧ Ln w w' u vs ∧ Fr w w' (fun _ => False) := by
  obtain ⟨ao, cap, rfl, _, hcell⟩ := id h
  obtain ⟨i0, hinfo, hz0, hz1, hz2⟩ := infoP Try.info_view
  obtain ⟨w1, hmk, hown1, hg1⟩ := run_make_own (P := Try.prog) w w.heap.size 22 53 i0 _ 3 Try.underlying22 hinfo hz0 hz1 .i64 .i64 (vs.length + 3) (by rw [hz2]; omega) (by unfold maxLen; omega) (Nat.le_refl _)
  have e1 : ((vs.length + 3 : Nat) : Int) = (vs.length : Int) + 3 := by omega
  rw [e1] at hmk
  have HF1 : Hid (Fr w w1 (fun _ => False)) := (Fr.refl w _).grown hg1 (fun k _ e => by cases e)
  have HO1 := hid hown1
  have HV := hid h
  clear h hown1 hg1 e1
  go_enter Try.func11, Try.ntmps11
  have HFIN : Hid (∀ (W : World) (u : Value), W.ownsRow w.heap.size 53 3 u (vs.length + 1) (vc vs ++ [.int .i64 (-77), .int .i64 0, .int .i64 0]) → ∃ g cp, u = .slice (some ⟨g, 0, none⟩) (vs.length + 1) cp ∧ vs.length + 1 ≤ cp ∧ cp ≤ 9223372036854775807 ∧ Ln w W (.slice (some ⟨g, 0, none⟩) vs.length cp) vs) := fun W u hu => by
    rcases hu.2 with ⟨_, h0⟩ | ⟨g, cp, cur, rfl, hb, hg, hn, hm, hcs, htake⟩
    · omega
    · unfold maxLen at hm
      refine ⟨g, cp, rfl, hn, by omega, ⟨g, cp, cur.toList.drop ((vs.length + 1) * 3), rfl, hn, by omega, hb, ?_⟩⟩
      unfold RowW
      rw [hg]
      congr 2
      apply Array.ext'
      rw [List.toList_toArray, vc_append]
      have e : vc [mkV] = [.int .i64 (-77), .int .i64 0, .int .i64 0] := rfl
      rw [e, ← htake, List.take_append_drop]
  have HSEC : Hid (∀ (W : World) (u : Value), Fr w W (fun _ => False) → W.ownsRow w.heap.size 53 3 u vs.length (vc vs) → True) := fun _ _ _ _ => trivial
  clear HSEC
  rcases ao with _ | ad
  · obtain rfl : cap = 0 := hz _ _ rfl
    have hvs : vs = [] := by
      rcases vs with _ | ⟨x, xs⟩
      · rfl
      · obtain ⟨b, off, e, _⟩ := hcell (by simp)
        cases e
    subst hvs
    clear hcell hz hl
    have hmk' : (Instr.makeSlice 22 (.int .i64 0) (.int .i64 3)).run Try.prog w = .ok (.slice (some ⟨w.heap.size, 0, none⟩) 0 3) w1 := hmk
    clear hmk
    go_wp2_with (first | (at_builtin; refine wpList_append_own_none rfl (.tmp 6) (.tmp 7) 22 rfl w.heap.size 53 i0 3 Try.underlying22 hinfo _ _ _ rfl HO1.out rfl ?_) | (at_builtin; go_must (refine wpList_append_own_at _ rfl (.tmp 8) (.tmp 10) 22 rfl w.heap.size 53 i0 _ 3 24 Try.underlying22 hinfo hz0 hz1 hz2 rfl (by decide) _ _ _ rfl (HO1.out.alloc _) ⟨w1.heap.size, 0, none⟩ 1 1 [.int .i64 (-77), .int .i64 0, .int .i64 0] rfl rfl ?c1 ?c2 ?c3 ?c4 ?c5 ?_)))
    case c1 =>
      intro j u hj
      have hy := heap_last w1 (.cells #[.int .i64 (-77), .int .i64 0, .int .i64 0] 53) _ rfl
      rw [Addr.add_lit, Nat.zero_add, cell_of_row _ _ j _ _ (0, 0) hy]
      simpa using hj
    case c2 => intro u hu; simp at hu; rcases hu with rfl | rfl <;> rfl
    case c3 => unfold maxLen; simp
    case c4 => simp
    case c5 => have := HF1.out.size; simp; omega
    intro v2 w2 hown2 hg2 _ _
    have HF2 : Hid (Fr w w2 (fun _ => False)) := (HF1.out.alloc _).grown hg2 (fun k hk e => by have := HO1.out.lt k e; omega)
    obtain ⟨g, cp, rfl, hcp, hcp2, hln⟩ := HFIN.out _ _ hown2
    have HLN := hid hln
    clear hln hown2 hg2
    simp only [List.length_nil, Nat.zero_add] at hcp HLN ⊢
    go_wp2_with fail
    go_ret
    exact ⟨_, rfl, HLN.out, HF2.out⟩
  · have hm : ∀ j u, (vc vs)[j]? = some u → w1.cell? (ad.add j) = some u := by
      intro j u hj
      have hne : vs ≠ [] := by intro e; subst e; simp [vc] at hj
      obtain ⟨b, off, e, hc⟩ := hcell hne
      cases e
      have := vs_cells hc j u hj
      rw [Addr.add_lit] at this ⊢
      rw [(fr_rules HF1.out).1 b _ (World.block_lt_of_cell? w _ this)]
      exact this
    have HM := hid hm
    have hn3 : vs.length + 3 ≤ 103 := by omega
    clear hcell hz hm
    go_wp2_with (at_builtin; go_must (refine wpList_append_own_at _ rfl (.tmp 6) (.tmp 7) 22 rfl w.heap.size 53 i0 _ 3 24 Try.underlying22 hinfo hz0 hz1 hz2 rfl (by decide) _ _ _ rfl HO1.out ad vs.length cap (vc vs) rfl (vc_length vs) HM.out (vc_one vs) ?c3 ?c4 ?c5 ?_))
    case c3 => unfold maxLen; omega
    case c4 => omega
    case c5 => exact HF1.out.size
    intro v2 w2 hown2 hg2 _ _
    have HF2 : Hid (Fr w w2 (fun _ => False)) := HF1.out.grown hg2 (fun k hk e => by have := HO1.out.lt k e; omega)
    have HO2 := hid hown2
    obtain ⟨a2, c2, rfl⟩ := own_nil_shape hown2
    clear hown2 hg2 HO1
    go_wp2_with (at_builtin; go_must (refine wpList_append_own_at _ rfl (.tmp 8) (.tmp 10) 22 rfl w.heap.size 53 i0 _ 3 24 Try.underlying22 hinfo hz0 hz1 hz2 rfl (by decide) _ _ _ rfl (HO2.out.alloc _) ⟨w2.heap.size, 0, none⟩ 1 1 [.int .i64 (-77), .int .i64 0, .int .i64 0] rfl rfl ?d1 ?d2 ?d3 ?d4 ?d5 ?_))
    case d1 =>
      intro j u hj
      have hy := heap_last w2 (.cells #[.int .i64 (-77), .int .i64 0, .int .i64 0] 53) _ rfl
      rw [Addr.add_lit, Nat.zero_add, cell_of_row _ _ j _ _ (0, 0) hy]
      simpa using hj
    case d2 => intro u hu; simp at hu; rcases hu with rfl | rfl <;> rfl
    case d3 => unfold maxLen; omega
    case d4 => omega
    case d5 => have := HF2.out.size; simp; omega
    intro v3 w3 hown3 hg3 _ _
    have HF3 : Hid (Fr w w3 (fun _ => False)) := (HF2.out.alloc _).grown hg3 (fun k hk e => by have := HO2.out.lt k e; omega)
    obtain ⟨g, cp, rfl, hcp, hcp2, hln⟩ := HFIN.out _ _ hown3
    have HLN := hid hln
    clear hln hown3 hg3 HO2 HM
    have hcp3 : (vs.length : Int) ≤ (cp : Int) := by omega
    go_wp2_with fail
    go_ret
    exact ⟨_, rfl, HLN.out, HF3.out⟩

set_option maxHeartbeats 2000000 in
set_option maxRecDepth 100000 in
theorem kept_any {w0 w : World} {u v : Value} {vs : List Vw} (hL : Ln w0 w u vs) (h : Vs w v vs) (hl : vs.length ≤ 100) : Calls Try.prog 14 #[u, v] w fun e w' => e = .returned (.bool true) ∧ Fr w w' (fun _ => False) := by
  obtain ⟨g, cap, rest, rfl, h1, h2, _, hrow⟩ := hL.at'
  obtain ⟨ao, capv, rfl, hvl, hcell⟩ := id h
  have HR := hid hrow
  have HV := hid h
  clear hL h hcell
  have hn1 : (vs.length : Int) + 1 ≤ (cap : Int) := by omega
  obtain ⟨m0, m1, m2⟩ := hrow.get (i := vs.length) (by rw [List.length_append]; simp)
  have em : (vs ++ [mkV]).getD vs.length vw0 = mkV := by simp [List.getD]
  rw [em] at m0 m1 m2
  have hlt := hrow.lt
  have m0' : w.cell? ⟨g, vs.length * 3, none⟩ = some (.int .i64 (-77)) := m0
  clear em m0 m1 m2 hrow
  go_enter Try.func14, Try.ntmps14
  go_wp2_with fail
  clear m0' hlt
  go_loopg [5, 6] vs.length (fun n s5 s6 wx => ∃ i : Nat, s6 = .int .i64 (i : Int) ∧ Hid (i + n = vs.length) ∧ s5 = .bool true ∧ Hid (Fr w wx (fun _ => False)))
  case atStart => exact ⟨0, rfl, by show _ = _; omega, rfl, Fr.refl _ _⟩
  case round =>
    obtain ⟨i, rfl, HG, rfl, HF⟩ := hrel
    cases gk with
    | zero =>
      have t1 : ¬ (i : Int) < (vs.length : Int) := by have := HG.out; omega
      go_wp2_with fail
      go_ret
      exact ⟨rfl, HF.out⟩
    | succ n =>
      have hi : i < vs.length := by have := HG.out; omega
      have t1 : (i : Int) < (vs.length : Int) := by omega
      obtain ⟨b, off, rfl, c0, c1, c2⟩ := (HV.out.fr HF.out (fun _ _ _ _ _ h => h)).at hi
      have hbl : b < wr.heap.size := World.block_lt_of_cell? wr _ c0
      obtain ⟨d0, d1, d2⟩ := (HR.out.fr HF.out (fun h => h)).get (i := i) (by rw [List.length_append]; omega)
      have em : (vs ++ [mkV]).getD i vw0 = vs.getD i vw0 := by simp [List.getD, List.getElem?_append_left hi]
      rw [em] at d0 d1 d2
      have hgl := (HR.out.fr HF.out (fun h => h)).lt
      clear em hi
      generalize (vs.getD i vw0).s = vs0 at *
      generalize (vs.getD i vw0).d = vd0 at *
      generalize (vs.getD i vw0).l = vl0 at *
      go_wp2_with fail
      go_quiet (fail)
      go_wp2_with fail
      go_roundg n
      case measure => omega
      case rel => exact ⟨i + 1, by go_num, by have := HG.out; show _ = _; omega, rfl, HF.out.drewN _⟩
end Go.Proofs.Ytfmhdpenodmblab
