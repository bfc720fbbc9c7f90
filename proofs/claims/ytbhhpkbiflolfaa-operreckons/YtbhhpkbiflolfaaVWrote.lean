/- oper: check, Wrote: walks. -/
import Derived.Test.YtbhhpkbiflolfaaVNew
namespace Go.Proofs.Ytbhhpkbiflolfaa.V
open Go.RowKit Go.Maps
open M (Cl cmpC vC)

theorem rem64 (s d : Int) (h1 : 1 ≤ d) : ∀ W : World, (binOp .rem 2 (.int .i64 s) (.int .i64 d)).run Try.prog W = .ok (.int .i64 (s.tmod d)) W := by
  intro W
  have h5 : ¬ d = 0 := by omega
  simp [binOp, Op.intDiv, go_sem, h5]

set_option maxHeartbeats 2000000 in
set_option maxRecDepth 100000 in
theorem ocheck_any {w : World} {x : Ox} {vs : List Vw} {ms : List Int} {L : List Cl} (h : Op w x vs ms L) (c : Cl) :
    Calls Try.prog 61 #[.pointer (some ⟨x.B, 0, none⟩), vC c] w fun e w' => e = .returned (.int .i64 (chkK vs (leastL ms) c)) ∧ Fr w w' (fun _ => False) := by
  have HO := hid h
  have HCL := hid (fun (W : World) (hW : Fr w W (fun _ => False)) (h0 : 0 ≤ c.v) (h1 : c.v < (vs.length : Int)) (s1 : -2305843009213693952 ≤ c.s) (s2 : c.s ≤ 2305843009213693952) => oclosed_any (h.step hW) h0 h1 s1 s2)
  have HE : Hid (chkK vs (leastL ms) c = if c.v < 0 ∨ (vs.length : Int) ≤ c.v then 23 else if keyB c.k then (if c.s < -2305843009213693952 ∨ 2305843009213693952 < c.s then 22
    else if c.s.tmod (vs.getD c.v.toNat vw0).d ≠ 0 then 16 else if shK vs (leastL ms) c then 26 else 0) else 21) := rfl
  generalize chkK vs (leastL ms) c = ck at *
  generalize shK vs (leastL ms) c = sh at *
  clear h
  have HK := hid (fun W : World => isKey_any c.k W)
  obtain ⟨cv, k, cs⟩ := c
  simp only at *
  generalize keyB k = kb at *
  unfold vC at HCL
  unfold vC
  simp only at *
  -- the box
  have HBX : Hid (∀ W : World, Fr (w.alloc (.cells #[.int .i64 cv, .string k, .int .i64 cs] 64)) W (fun _ => False) → (W.cell? ⟨w.heap.size, 0, none⟩ = some (.int .i64 cv) ∧ W.cell? ⟨w.heap.size, 1, none⟩ = some (.string k) ∧ W.cell? ⟨w.heap.size, 2, none⟩ = some (.int .i64 cs)) ∧ w.heap.size < W.heap.size) := fun W hW => by
    have h1 := heap_last w (.cells #[.int .i64 cv, .string k, .int .i64 cs] 64) _ rfl
    have h2 : W.heap[w.heap.size]? = some (.cells #[.int .i64 cv, .string k, .int .i64 cs] 64 (0, 0)) := (hW.block _ (lt_of_block h1) (fun h => h)).trans h1
    exact ⟨cells3 h2, lt_of_block h2⟩
  have HWF : Hid (Fr w (w.alloc (.cells #[.int .i64 cv, .string k, .int .i64 cs] 64)) (fun _ => False)) := alloc_fr _ _ _
  have HCX : Hid (∀ W : World, Fr w W (fun _ => False) → W.cell? ⟨x.B, 0, none⟩ = some (.slice (some ⟨x.gv, 0, none⟩) vs.length x.cap) ∧ x.B < W.heap.size) := fun W hW => ⟨(HO.out.step hW).cells.1.1, (HO.out.step hW).cells.2⟩
  by_cases hv0 : cv < 0
  · have e : ck = 23 := by rw [HE.out, if_pos (Or.inl hv0)]
    subst e
    have d1 : decide (cv < 0) = true := decide_eq_true hv0
    go_enter Try.func61, Try.ntmps61
    go_wp2_with fail
    obtain ⟨⟨b0, b1, b2⟩, hbl⟩ := HBX.out _ (Fr.refl _ _)
    generalize (w.alloc (.cells #[.int .i64 cv, .string k, .int .i64 cs] 64)) = w2 at *
    generalize w.heap.size = N at *
    go_quiet (fail)
    go_wp2_with fail
    go_ret
    exact ⟨rfl, HWF.out.drewN _⟩
  · by_cases hv1 : (vs.length : Int) ≤ cv
    · have e : ck = 23 := by rw [HE.out, if_pos (Or.inr hv1)]
      subst e
      have d1 : decide (cv < 0) = false := decide_eq_false hv0
      have d2 : decide ((vs.length : Int) ≤ cv) = true := decide_eq_true hv1
      go_enter Try.func61, Try.ntmps61
      go_wp2_with fail
      obtain ⟨⟨b0, b1, b2⟩, hbl⟩ := HBX.out _ (Fr.refl _ _)
      obtain ⟨o0, obl⟩ := HCX.out _ HWF.out
      generalize (w.alloc (.cells #[.int .i64 cv, .string k, .int .i64 cs] 64)) = w2 at *
      generalize w.heap.size = N at *
      go_quiet (fail)
      go_wp2_with fail
      go_ret
      exact ⟨rfl, HWF.out.drewN _⟩
    · have d1 : decide (cv < 0) = false := decide_eq_false hv0
      have d2 : decide ((vs.length : Int) ≤ cv) = false := decide_eq_false hv1
      have e1 : ¬ (cv < 0 ∨ (vs.length : Int) ≤ cv) := by omega
      rw [if_neg e1] at HE
      clear e1
      obtain ⟨n, rfl⟩ : ∃ n : Nat, cv = (n : Int) := ⟨cv.toNat, by omega⟩
      rw [Int.toNat_natCast] at HE
      have hn : n < vs.length := by omega
      have hn2 : (n : Int) < (vs.length : Int) := by omega
      have HRW : Hid (∀ W : World, Fr w W (fun _ => False) → W.cell? ⟨x.gv, n * 3 + 1, none⟩ = some (.int .i64 (vs.getD n vw0).d) ∧ x.gv < W.heap.size) := fun W hW => by
        obtain ⟨rest, hr⟩ := (HO.out.step hW).row
        exact ⟨(hr.get hn).2.1, hr.lt⟩
      have hd1 : 1 ≤ (vs.getD n vw0).d := (okVs_at HO.out.okv hn).d1
      have HRM := hid (rem64 cs (vs.getD n vw0).d hd1)
      have HD := hid hd1
      clear hd1
      generalize (vs.getD n vw0).d = vd at *
      generalize hrd : cs.tmod vd = rd at *
      have q1 : ¬ vd = 0 := by have := HD.out; omega
      have q2 : (vd == 0) = false := by simpa using q1
      have q3 : ¬ vd = -1 := by have := HD.out; omega
      have q4 : (vd == -1) = false := by simpa using q3
      go_enter Try.func61, Try.ntmps61
      go_wp2_with fail
      obtain ⟨⟨b0, b1, b2⟩, hbl⟩ := HBX.out _ (Fr.refl _ _)
      obtain ⟨o0, obl⟩ := HCX.out _ HWF.out
      generalize (w.alloc (.cells #[.int .i64 (n : Int), .string k, .int .i64 cs] 64)) = w2 at *
      generalize w.heap.size = N at *
      go_quiet (fail)
      go_wp2_with fail
      refine (HK.out _).mono ?_
      rintro e w3 ⟨rfl, rfl⟩
      clear HK d1 d2
      have HF3 : Hid (Fr w2 (w2.drewN nq) (fun _ => False)) := (Fr.refl _ _).drewN _
      generalize w2.drewN nq = w3 at *
      clear b0 b1 b2 hbl o0 obl
      obtain ⟨⟨b0, b1, b2⟩, hbl⟩ := HBX.out _ HF3.out
      cases kb with
      | false =>
        have e : ck = 21 := by rw [HE.out]; rfl
        subst e
        go_wp2_with fail
        go_ret
        exact ⟨rfl, HWF.out.trans HF3.out⟩
      | true =>
        rw [if_pos rfl] at HE
        by_cases hs : cs < -2305843009213693952 ∨ 2305843009213693952 < cs
        · have e : ck = 22 := by rw [HE.out, if_pos hs]
          subst e
          have hc : cs < -2305843009213693952 ∨ (¬ cs < -2305843009213693952 ∧ 2305843009213693952 < cs) := by omega
          clear hs HE
          rcases hc with t1 | ⟨t1, t2⟩
          all_goals
            go_wp2_with fail
            go_ret
            exact ⟨rfl, HWF.out.trans HF3.out⟩
        · rw [if_neg hs] at HE
          have t1 : ¬ cs < -2305843009213693952 := by omega
          have t2 : ¬ 2305843009213693952 < cs := by omega
          clear hs
          go_wp2_with fail
          obtain ⟨o0, obl⟩ := HCX.out _ (HWF.out.trans HF3.out)
          obtain ⟨r1, rbl⟩ := HRW.out _ (HWF.out.trans HF3.out)
          have hrm := HRM.out
          go_quiet (fail)
          clear hrm b0 b1 b2 hbl o0 obl r1 rbl
          have HF4 : Hid (Fr w2 (w3.drewN nq) (fun _ => False)) := HF3.out.drewN _
          generalize w3.drewN nq = w4 at *
          obtain ⟨⟨b0, b1, b2⟩, hbl⟩ := HBX.out _ HF4.out
          by_cases hr : rd ≠ 0
          · have e : ck = 16 := by rw [HE.out, if_pos hr]
            subst e
            have u1 : (rd != 0) = true := by simpa using hr
            have u2 : (rd == 0) = false := by simpa using hr
            clear HE
            go_wp2_with fail
            go_ret
            exact ⟨rfl, HWF.out.trans HF4.out⟩
          · rw [if_neg hr] at HE
            have e : rd = 0 := by simpa using hr
            subst e
            have HC2 := hid (HCL.out _ (HWF.out.trans HF4.out) (by omega) hn2 (by omega) (by omega))
            clear hr HCL
            go_wp2_with fail
            refine HC2.out.mono ?_
            rintro e w5 ⟨rfl, hf5⟩
            have HF5 := hid (HWF.out.trans (HF4.out.trans hf5))
            clear hf5
            cases sh with
            | true =>
              have e : ck = 26 := by rw [HE.out]; rfl
              subst e
              go_wp2_with fail
              go_ret
              exact ⟨rfl, HF5.out⟩
            | false =>
              have e : ck = 0 := by rw [HE.out]; rfl
              subst e
              go_wp2_with fail
              go_ret
              exact ⟨rfl, HF5.out⟩

/-- Cells that can be read at a slice. -/
def Ks (w : World) (v : Value) (cs : List Cl) : Prop :=
  ∃ ao cap, v = .slice ao cs.length cap ∧ cs.length ≤ 9223372036854775807 ∧ (cs ≠ [] → ∃ b off : Nat, ao = some ⟨b, off, none⟩ ∧ ∀ i, i < cs.length → w.cell? ⟨b, off + i * 3, none⟩ = some (.int .i64 (cs[i]?.getD default).v) ∧ w.cell? ⟨b, off + i * 3 + 1, none⟩ = some (.string (cs[i]?.getD default).k) ∧ w.cell? ⟨b, off + i * 3 + 2, none⟩ = some (.int .i64 (cs[i]?.getD default).s))
theorem Ks.fr {w w' : World} {S : Nat → Prop} {v : Value} {cs : List Cl} (h : Ks w v cs) (hf : Fr w w' S) (hv : cs ≠ [] → ∀ k o n c, v = .slice (some ⟨k, o, none⟩) n c → ¬ S k) : Ks w' v cs := by
  obtain ⟨ao, cap, rfl, hl, hcell⟩ := h
  refine ⟨ao, cap, rfl, hl, fun hne => ?_⟩
  obtain ⟨b, off, rfl, hc⟩ := hcell hne
  refine ⟨b, off, rfl, fun i hi => ?_⟩
  obtain ⟨h0, h1, h2⟩ := hc i hi
  have hlt : b < w.heap.size := World.block_lt_of_cell? w _ h0
  have hbl := hf.block b hlt (hv hne b off _ _ rfl)
  have hr : ∀ o, w'.cell? ⟨b, o, none⟩ = w.cell? ⟨b, o, none⟩ := fun o => by simp only [World.cell?, hbl]
  exact ⟨by rw [hr]; exact h0, by rw [hr]; exact h1, by rw [hr]; exact h2⟩
theorem Ks.at {w : World} {ao : Option Addr} {n cap : Nat} {cs : List Cl} (h : Ks w (.slice ao n cap) cs) {i : Nat} (hi : i < cs.length) : ∃ b off, ao = some ⟨b, off, none⟩ ∧ w.cell? ⟨b, off + i * 3, none⟩ = some (.int .i64 (cs[i]?.getD default).v) ∧ w.cell? ⟨b, off + i * 3 + 1, none⟩ = some (.string (cs[i]?.getD default).k) ∧ w.cell? ⟨b, off + i * 3 + 2, none⟩ = some (.int .i64 (cs[i]?.getD default).s) := by
  obtain ⟨ao', cap', e, hl, hcell⟩ := h
  obtain ⟨b, off, e2, hc⟩ := hcell (by intro e; subst e; simp at hi)
  simp only [Value.slice.injEq] at e
  exact ⟨b, off, by rw [e.1, e2], hc i hi⟩
/-- No cells lie in a map. -/
theorem Ks.ne {w : World} {v : Value} {cs : List Cl} {mb : Nat} {L : List Cl} (h : Ks w v cs) (hm : Mc w mb L) : cs ≠ [] → ∀ k o n c, v = .slice (some ⟨k, o, none⟩) n c → ¬ k = mb := by
  intro hne k o n c e ek
  subst ek e
  obtain ⟨ao, cap, e, hl, hcell⟩ := h
  obtain ⟨b, off, e2, hc⟩ := hcell hne
  have h0 := (hc 0 (List.length_pos_iff.2 hne)).1
  simp only [Value.slice.injEq] at e
  rw [e2] at e
  simp only [Option.some.injEq, Addr.mk.injEq] at e
  obtain ⟨⟨rfl, _⟩, _⟩ := e
  obtain ⟨es, cl, hb⟩ := hm.isMap
  simp [World.cell?, hb] at h0

/-- What is live behind Wrote. -/
def wroteL (vs : List Vw) (m : Int) (cs L : List Cl) : List Cl := if chkAll vs m cs = 0 then insAll cs L else L
theorem Op.ne {w : World} {x : Ox} {vs : List Vw} {ms : List Int} {L : List Cl} (h : Op w x vs ms L) : x.B ≠ x.mb ∧ x.Bm ≠ x.mb ∧ x.gm ≠ x.mb ∧ x.gv ≠ x.mb := by
  obtain ⟨es, cl, hb⟩ := h.map.isMap
  obtain ⟨rest, hr⟩ := h.row
  have h1 := h.cell
  have h2 := h.marks.cell
  have h3 : w.heap[x.gm]? = some (.cells (iv ms).toArray 2 (0, 0)) := h.marks.row
  have h4 : w.heap[x.gv]? = some (.cells (vc vs ++ rest).toArray 49 (0, 0)) := hr
  refine ⟨?_, ?_, ?_, ?_⟩
  · intro e; rw [e, hb] at h1; cases h1
  · intro e; rw [e, hb] at h2; cases h2
  · intro e; rw [e, hb] at h3; cases h3
  · intro e; rw [e, hb] at h4; cases h4
theorem Op.put {w w' : World} {x : Ox} {vs : List Vw} {ms : List Int} {L L' : List Cl} (h : Op w x vs ms L) (hm : Mc w' x.mb L') (hf : Fr w w' (fun b => b = x.mb)) (hr : Ri L') (hl : ∀ c ∈ L', OkK vs c ∧ shK vs (leastL ms) c = false) : Op w' x vs ms L' := by
  obtain ⟨n1, n2, n3, n4⟩ := h.ne
  obtain ⟨rest, hrow⟩ := h.row
  exact ⟨by rw [hf.block _ (lt_of_block h.cell) n1]; exact h.cell, ⟨rest, hrow.fr hf n4⟩, h.marks.fr hf n2 n3, hm, h.okv, h.one, h.four, hr, hl⟩
theorem okK_fit {vs : List Vw} {c : Cl} (h : OkK vs c) (h4 : vs.length ≤ 4) : FitC c := by
  have := h.v0; have := h.v1; have := h.s1; have := h.s2; have := h.k2
  exact ⟨by unfold fits; omega, by unfold fits; omega, by unfold maxLen; omega⟩
theorem grown_fr {w w' : World} {b : Nat} (h : w.grownBy w' (some b)) : Fr w w' (fun k => k = b) := ⟨h.os, h.tape, h.output, h.size, fun i hi hn => h.block i hi (fun e => hn (by simpa using e))⟩

set_option maxHeartbeats 2000000 in
set_option maxRecDepth 100000 in
theorem wrote_any {w : World} {x : Ox} {vs : List Vw} {ms : List Int} {L : List Cl} (h : Op w x vs ms L) {v : Value} {cs : List Cl} (hk : Ks w v cs) (hb : L.length + cs.length ≤ 1000000000) :
    Calls Try.prog 31 #[.pointer (some ⟨x.B, 0, none⟩), v] w fun e w' => e = .returned (.int .i64 (chkAll vs (leastL ms) cs)) ∧ Op w' x vs ms (wroteL vs (leastL ms) cs L) ∧ Fr w w' (fun b => b = x.mb) := by
  have HO := hid h
  have HK := hid hk
  obtain ⟨ao, cap, rfl, hl, _⟩ := id hk
  have HNE := hid (hk.ne h.map)
  clear h hk
  obtain ⟨R, hR⟩ : ∃ R, R = chkAll vs (leastL ms) cs := ⟨_, rfl⟩
  obtain ⟨L2, hL2⟩ : ∃ L2, L2 = wroteL vs (leastL ms) cs L := ⟨_, rfl⟩
  rw [← hR, ← hL2]
  have HR := hid hR
  have HL2 := hid hL2
  clear hR hL2
  go_enter Try.func31, Try.ntmps31
  go_wp2_with fail
  go_loopg [6, 7, 12] cs.length (fun n s6 s7 s12 wx => ∃ i : Nat, s12 = .int .i64 (i : Int) ∧ Hid (i + n = cs.length) ∧ Hid (∀ j, j < i → chkK vs (leastL ms) (cs[j]?.getD default) = 0) ∧ Hid (Fr w wx (fun _ => False)))
  case atStart => exact ⟨0, rfl, by show _ = _; omega, (by intro j hj; omega), Fr.refl _ _⟩
  case round =>
    obtain ⟨i, rfl, HG, HA, HF⟩ := hrel
    cases gk with
    | succ n =>
      have hi : i < cs.length := by have := HG.out; omega
      have t1 : (i : Int) < (cs.length : Int) := by omega
      obtain ⟨b, off, rfl, c0, c1, c2⟩ := (HK.out.fr HF.out (fun _ _ _ _ _ _ h => h)).at hi
      have hbl : b < wr.heap.size := World.block_lt_of_cell? wr _ c0
      have HC := hid (fun (W : World) (hW : Fr w W (fun _ => False)) => ocheck_any (HO.out.step hW) (cs[i]?.getD default))
      have HI := hid hi
      have HAT := hid (chkAll_at (vs := vs) (m := leastL ms) hi HA.out)
      have HA1 : Hid (chkK vs (leastL ms) (cs[i]?.getD default) = 0 → ∀ j, j < i + 1 → chkK vs (leastL ms) (cs[j]?.getD default) = 0) := fun hz j hj => by
        rcases Nat.lt_or_ge j i with h | h
        · exact HA.out j h
        · rw [show j = i by omega]; exact hz
      clear hi
      generalize (cs[i]?.getD default) = c at *
      unfold vC at HC
      generalize chkK vs (leastL ms) c = ck at *
      obtain ⟨cv, k, cst⟩ := c
      simp only at *
      go_wp2_with fail
      refine (HC.out _ (HF.out.alloc _)).mono ?_
      rintro e w1 ⟨rfl, hf⟩
      have HF1 := hid ((HF.out.alloc _).trans hf)
      clear hf HC
      by_cases hz : ck = 0
      · subst hz
        go_wp2_with fail
        go_roundg n
        case measure => omega
        case rel => exact ⟨i + 1, by go_num, by have := HG.out; show _ = _; omega, hid (HA1.out (by trivial)), HF1⟩
      · have e := HAT.out hz
        have hRc : R = ck := HR.out.trans e
        subst hRc
        obtain rfl : L2 = L := by rw [HL2.out, wroteL, e, if_neg hz]
        have HZ := hid hz
        have hz2 : (R != 0) = true := by simpa using hz
        have hz3 : (R == 0) = false := by simpa using hz
        clear HAT HA1 e hz HR HL2
        go_wp2_with fail
        try rw [Exit.noGoto_ret]
        go_ret
        exact ⟨rfl, HO.out.step HF1.out, HF1.out.mono (fun _ _ h => h.elim)⟩
    | zero =>
      have u1 : ¬ (i : Int) < (cs.length : Int) := by have := HG.out; omega
      have hall : ∀ c ∈ cs, chkK vs (leastL ms) c = 0 := fun c hc => by
        obtain ⟨j, hj, rfl⟩ := List.mem_iff_getElem.1 hc
        have := HA.out j (by have := HG.out; omega)
        simpa [hj] using this
      have e := chkAll_zero.2 hall
      obtain rfl : R = 0 := HR.out.trans e
      obtain rfl : L2 = insAll cs L := by rw [HL2.out, wroteL, e, if_pos rfl]
      have HALL := hid hall
      have HO1 := hid (HO.out.step HF.out)
      clear HG HA e hall HO HR HL2
      go_wp2_with fail
      generalize wr = W0 at *
      go_loopg [9, 25] cs.length (fun n s9 s25 wx => ∃ i : Nat, s25 = .int .i64 (i : Int) ∧ Hid (i + n = cs.length) ∧ Hid (Op wx x vs ms (insAll (cs.take i) L)) ∧ Hid (Fr w wx (fun b => b = x.mb)))
      case atStart => exact ⟨0, rfl, by show _ = _; omega, HO1, HF.out.mono (fun _ _ h => h.elim)⟩
      case round =>
        obtain ⟨i, rfl, HG, HO2, HF2⟩ := hrel
        clear HO1 HF
        cases gk with
        | succ n =>
          have hi : i < cs.length := by have := HG.out; omega
          have t1 : (i : Int) < (cs.length : Int) := by omega
          obtain ⟨b, off, rfl, c0, c1, c2⟩ := (HK.out.fr HF2.out HNE.out).at hi
          have hbl : b < wr.heap.size := World.block_lt_of_cell? wr _ c0
          have HTK := hid (insAll_take hi L)
          have hmem : cs[i]?.getD default ∈ cs := by simp [hi]
          obtain ⟨hok, _, hsh⟩ := chkK_ok (HALL.out _ hmem)
          have hfit := okK_fit hok HO2.out.four
          have hln : (insAll (cs.take i) L).length < maxLen := by
            have := insAll_len (cs.take i) L
            have e : (cs.take i).length ≤ cs.length := by rw [List.length_take]; omega
            unfold maxLen
            omega
          have HRI := hid (ri_ins (c := cs[i]?.getD default) HO2.out.ri)
          have HLV : Hid (∀ c ∈ ins (cs[i]?.getD default) (insAll (cs.take i) L), OkK vs c ∧ shK vs (leastL ms) c = false) := fun c hc => by
            rcases mem_ins.1 hc with rfl | hc
            · exact ⟨hok, hsh⟩
            · exact HO2.out.live c hc
          have HI := hid hi
          clear hi hmem hok hsh
          generalize (cs[i]?.getD default) = c at *
          generalize insAll (cs.take i) L = L1 at *
          have HPUT : Hid (∀ W : World, Mc W x.mb L1 → ∃ w', (Instr.mapUpdate 83 (.map (some x.mb)) (vC c) (.agg #[])).run Try.prog W = .ok () w' ∧ Mc w' x.mb (ins c L1) ∧ W.grownBy w' (some x.mb)) := fun W hW => hW.put HO2.out.ri hln hfit
          clear hln hfit
          unfold vC at HPUT
          obtain ⟨cv, k, cst⟩ := c
          simp only at *
          go_wp2_with fail
          have HB : Hid ((wr.alloc (.cells #[.int .i64 cv, .string k, .int .i64 cst] 64)).heap[wr.heap.size]? = some (.cells #[.int .i64 cv, .string k, .int .i64 cst] 64 (0, 0))) := heap_last _ _ _ rfl
          have HO3 := hid (HO2.out.step (alloc_fr wr (.cells #[.int .i64 cv, .string k, .int .i64 cst] 64) _))
          have HF3 : Hid (Fr w (wr.alloc (.cells #[.int .i64 cv, .string k, .int .i64 cst] 64)) (fun b => b = x.mb)) := HF2.out.alloc _
          generalize (wr.alloc (.cells #[.int .i64 cv, .string k, .int .i64 cst] 64)) = w2 at *
          generalize wr.heap.size = N at *
          clear c0 c1 c2 hbl HO2 HF2
          obtain ⟨b0, b1, b2⟩ := cells3 HB.out
          have hnl := lt_of_block HB.out
          obtain ⟨⟨_, o1, _, _, _⟩, obl⟩ := HO3.out.cells
          obtain ⟨w3, hrun, hmc, hgr⟩ := HPUT.out w2.drew (HO3.out.map.at rfl)
          have HO4 : Hid (Op w3 x vs ms (ins ⟨cv, k, cst⟩ L1)) := HO3.out.drew.put hmc (grown_fr hgr) HRI.out HLV.out
          have HF4 : Hid (Fr w w3 (fun b => b = x.mb)) := HF3.out.drew.trans (grown_fr hgr)
          clear hmc hgr HPUT HRI HLV HB
          go_region
          all_goals
            go_wp2_with fail
            go_roundg n
            case measure => omega
            case rel => exact ⟨i + 1, by go_num, by have := HG.out; show _ = _; omega, by rw [HTK.out]; exact HO4, HF4⟩
        | zero =>
          have t1 : ¬ (i : Int) < (cs.length : Int) := by have := HG.out; omega
          have e : insAll (cs.take i) L = insAll cs L := by rw [List.take_of_length_le (by have := HG.out; omega)]
          rw [e] at HO2
          clear e
          go_wp2_with fail
          go_ret
          exact ⟨rfl, HO2.out, HF2.out⟩
end Go.Proofs.Ytbhhpkbiflolfaa.V
