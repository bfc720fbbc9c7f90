/- The laws' cut, do: walks. -/
import Derived.Test.YtglkjhpkeelajaaVSpoil
import Derived.Test.YtglkjhpkeelajaaVLive2
namespace Go.Proofs.Ytglkjhpkeelajaa.V
open Go.RowKit Go.Maps
open M (Cl cmpC vC)

theorem cut_any {w : World} {v : Value} {cs : List Cl} (h : Ks w v cs) (hc : CapOk v) : Calls Try.prog 44 #[v] w fun e w' => ∃ u, e = .returned u ∧ w' = w ∧ Ks w u (cutK cs) := by
  have HK := hid h
  obtain ⟨ao, cap, rfl, hl, hcell⟩ := h
  have hcap := hc _ _ _ rfl
  have HC := hid hcell
  clear hcell hc
  by_cases h3 : 300 < cs.length
  · have t1 : (300 : Int) < (cs.length : Int) := by omega
    have t2 : 300 ≤ cap := by omega
    have HR : Hid (Ks w (.slice ao 300 cap) (cutK cs)) := by
      have e : (cutK cs).length = 300 := by unfold cutK; rw [List.length_take]; omega
      refine ⟨ao, cap, by rw [e], by omega, fun _ => ?_⟩
      obtain ⟨b, off, hb, h1⟩ := HC.out (by intro e; subst e; simp at h3)
      refine ⟨b, off, hb, fun i hi => ?_⟩
      have e2 : (cutK cs)[i]?.getD default = cs[i]?.getD default := by unfold cutK; rw [List.getElem?_take_of_lt (by omega)]
      rw [e2]
      exact h1 i (by omega)
    go_enter Try.func44, Try.ntmps44
    go_wp2_with fail
    go_ret
    exact ⟨_, rfl, rfl, HR.out⟩
  · have t1 : ¬ (300 : Int) < (cs.length : Int) := by omega
    have e : cutK cs = cs := by unfold cutK; rw [List.take_of_length_le (by omega)]
    rw [e]
    go_enter Try.func44, Try.ntmps44
    go_wp2_with fail
    go_ret
    exact ⟨_, rfl, rfl, HK.out⟩
/-- A step's box. -/
def BxS (W : World) (N : Nat) (y : Sf) : Prop := W.heap[N]? = some (.cells #[.int .i64 y.k, .int .i64 y.s, .string y.key, .int .i64 y.t, .int .i64 y.val, y.cv] 37 (0, 0))
theorem BxS.step {W W' : World} {N : Nat} {y : Sf} (h : BxS W N y) (hf : Fr W W' (fun _ => False)) : BxS W' N y := (hf.block _ (lt_of_block h) (fun h => h)).trans h
theorem BxS.at {W : World} {N : Nat} {y : Sf} (h : BxS W N y) : W.cell? ⟨N, 0, none⟩ = some (.int .i64 y.k) ∧ W.cell? ⟨N, 1, none⟩ = some (.int .i64 y.s) ∧ W.cell? ⟨N, 2, none⟩ = some (.string y.key) ∧ W.cell? ⟨N, 3, none⟩ = some (.int .i64 y.t) ∧ W.cell? ⟨N, 4, none⟩ = some (.int .i64 y.val) ∧ W.cell? ⟨N, 5, none⟩ = some y.cv ∧ N < W.heap.size := by
  have h' : W.heap[N]? = some (.cells #[.int .i64 y.k, .int .i64 y.s, .string y.key, .int .i64 y.t, .int .i64 y.val, y.cv] 37 (0, 0)) := h
  refine ⟨?_, ?_, ?_, ?_, ?_, ?_, lt_of_block h'⟩ <;> simp [World.cell?, h']
/-- What do leaves. -/
def DoR (w w' : World) (x : Ox) (vs : List Vw) (st' : Os2) (G : List Cl) (u : Value) : Prop := Op w' x vs st'.ms st'.L ∧ Kw w.heap.size w' u G ∧ Fr w w' (fun b => b = x.gm ∨ b = x.mb)

def DoG (k : Int) : Prop := ∀ {w : World} {x : Ox} {vs : List Vw} {st : Os2} (_ : Op w x vs st.ms st.L) (_ : st.L.length ≤ 900000000) {s t val : Int} {key : ByteArray} {ao : Option Addr} {cap : Nat} {cs : List Cl} (_ : Ks w (.slice ao cs.length cap) cs) (_ : CapOk (.slice ao cs.length cap)),
    Calls Try.prog 23 #[.pointer (some ⟨x.B, 0, none⟩), .agg #[.int .i64 k, .int .i64 s, .string key, .int .i64 t, .int .i64 val, .slice ao cs.length cap]] w fun e w' => ∃ u, e = .returned u ∧ DoR w w' x vs (doS vs st ⟨k, s, key, t, val, .slice ao cs.length cap, cs⟩) (goS vs st ⟨k, s, key, t, val, .slice ao cs.length cap, cs⟩) u

set_option maxHeartbeats 4000000 in
set_option maxRecDepth 100000 in
theorem do_take : DoG 1 := by
  intro w x vs st h hb s t val key ao cap cs hk hc
  have HB : Hid (BxS (w.alloc (.cells #[.int .i64 1, .int .i64 s, .string key, .int .i64 t, .int .i64 val, .slice ao cs.length cap] 37)) w.heap.size ⟨1, s, key, t, val, .slice ao cs.length cap, cs⟩) := heap_last _ _ _ rfl
  have HF := hid (alloc_fr w (.cells #[.int .i64 1, .int .i64 s, .string key, .int .i64 t, .int .i64 val, .slice ao cs.length cap] 37) (fun _ => False))
  have HO1 := hid (h.step HF.out)
  have HSM := hid (takeL_small (m := leastL st.ms) (t := t) (k := key) h.okv h.four)
  have HTE : Hid (takeE vs key t = takeE vs key t) := rfl
  obtain ⟨b0, b1, b2, b3, b4, b5, bl⟩ := HB.out.at
  have HTK := hid (take_any HO1.out key t)
  have HG : Hid (goS vs st ⟨1, s, key, t, val, .slice ao cs.length cap, cs⟩ = []) := rfl
  have HD : Hid (doS vs st ⟨1, s, key, t, val, .slice ao cs.length cap, cs⟩ = if takeE vs key t = 0 ∧ 0 < val then ⟨st.ms, wroteL vs (leastL st.ms) (takeL vs (leastL st.ms) key t) st.L⟩ else st) := rfl
  rw [HG.out]
  obtain ⟨D, hD⟩ : ∃ D, D = doS vs st ⟨1, s, key, t, val, .slice ao cs.length cap, cs⟩ := ⟨_, rfl⟩
  rw [← hD] at HD ⊢
  clear hD
  have HW := hid (fun (W : World) (u : Value) (hO : Op W x vs st.ms st.L) (hK : Ks W u (takeL vs (leastL st.ms) key t)) => wrote_any hO hK (by have := HSM.out; omega))
  clear h hk hc HG
  generalize takeL vs (leastL st.ms) key t = tl at *
  generalize takeB vs (leastL st.ms) key t = tb at *
  generalize takeE vs key t = te at *
  clear HTE
  simp only at b0 b1 b2 b3 b4 b5
  go_enter Try.func23, Try.ntmps23
  go_wp2_with fail
  refine HTK.out.mono ?_
  rintro e w2 ⟨u, rfl, hko, hf⟩
  have HF2 := hid (HF.out.trans hf)
  have HO2 := hid (HO1.out.step hf)
  have HB2 := hid (HB.out.step hf)
  have HKS := hid (hko.ks (by have := HSM.out; omega))
  obtain ⟨ao2, rfl⟩ := hko.shape
  clear b0 b1 b2 b3 b4 b5 bl hko hf HTK
  obtain ⟨b0, b1, b2, b3, b4, b5, bl⟩ := HB2.out.at
  simp only at b0 b1 b2 b3 b4 b5
  by_cases h0 : te = 0
  · subst h0
    by_cases hv : 0 < val
    · have HD2 : Hid (D = ⟨st.ms, wroteL vs (leastL st.ms) tl st.L⟩) := by show _ = _; rw [HD.out, if_pos ⟨rfl, hv⟩]
      clear HD
      have t1 : decide (0 < val) = true := decide_eq_true hv
      go_wp2_with fail
      refine (HW.out _ _ HO2.out HKS.out).mono ?_
      rintro e w3 ⟨rfl, ho3, hf3⟩
      have HO3 := hid ho3
      have HF3 : Hid (Fr w w3 (fun b => b = x.gm ∨ b = x.mb)) := (HF2.out.mono (fun _ _ h => h.elim)).trans (hf3.mono (fun _ _ h => Or.inr h))
      clear ho3 hf3
      go_wp2_with fail
      go_ret
      exact ⟨_, rfl, by rw [HD2.out]; exact HO3.out, kw_nil _ _, HF3.out⟩
    · have HD2 : Hid (D = st) := by show _ = _; rw [HD.out, if_neg (fun h => hv h.2)]
      clear HD
      have t1 : decide (0 < val) = false := decide_eq_false hv
      go_wp2_with fail
      go_ret
      exact ⟨_, rfl, by rw [HD2.out]; exact HO2.out, kw_nil _ _, HF2.out.mono (fun _ _ h => h.elim)⟩
  · have HD2 : Hid (D = st) := by show _ = _; rw [HD.out, if_neg (fun h => h0 h.1)]
    clear HD
    have t1 : (te == 0) = false := by simpa using h0
    go_wp2_with fail
    go_ret
    exact ⟨_, rfl, by rw [HD2.out]; exact HO2.out, kw_nil _ _, HF2.out.mono (fun _ _ h => h.elim)⟩

set_option maxHeartbeats 4000000 in
set_option maxRecDepth 100000 in
theorem do_mark : DoG 2 := by
  intro w x vs st h hb s t val key ao cap cs hk hc
  have HB : Hid (BxS (w.alloc (.cells #[.int .i64 2, .int .i64 s, .string key, .int .i64 t, .int .i64 val, .slice ao cs.length cap] 37)) w.heap.size ⟨2, s, key, t, val, .slice ao cs.length cap, cs⟩) := heap_last _ _ _ rfl
  have HF := hid (alloc_fr w (.cells #[.int .i64 2, .int .i64 s, .string key, .int .i64 t, .int .i64 val, .slice ao cs.length cap] 37) (fun _ => False))
  have HO1 := hid (h.step HF.out)
  obtain ⟨b0, b1, b2, b3, b4, b5, bl⟩ := HB.out.at
  have HMK := hid (mark_any HO1.out (by omega) s t)
  have HG : Hid (goS vs st ⟨2, s, key, t, val, .slice ao cs.length cap, cs⟩ = goneL vs (leastL (riseS st.ms s t)) st.L) := rfl
  have HD : Hid (doS vs st ⟨2, s, key, t, val, .slice ao cs.length cap, cs⟩ = ⟨riseS st.ms s t, leftL vs (leastL (riseS st.ms s t)) st.L⟩) := rfl
  rw [HG.out, HD.out]
  clear h hk hc HG HD
  simp only at b0 b1 b2 b3 b4 b5
  generalize (riseR st.ms s t).2 = rn at *
  go_enter Try.func23, Try.ntmps23
  go_wp2_with fail
  refine HMK.out.mono ?_
  rintro e w2 ⟨u, rfl, hkw, hop, hf⟩
  have HF2 : Hid (Fr w w2 (fun b => b = x.gm ∨ b = x.mb)) := (HF.out.mono (fun _ _ h => h.elim)).trans hf
  have HO2 := hid hop
  have HKW : Hid (Kw w.heap.size w2 u (goneL vs (leastL (riseS st.ms s t)) st.L)) := by
    have h1 := HF.out.size
    exact ⟨hkw.1, hkw.2.imp id (fun ⟨g, cap', cur, h1', h2, h3⟩ => ⟨g, cap', cur, h1', by omega, h3⟩)⟩
  obtain ⟨ao2, cap2, rfl⟩ := hkw.shape
  clear b0 b1 b2 b3 b4 b5 bl hkw hop hf HMK
  go_wp2_with fail
  go_ret
  exact ⟨_, rfl, HO2.out, HKW.out, HF2.out⟩

set_option maxHeartbeats 4000000 in
set_option maxRecDepth 100000 in
theorem do_wrote : DoG 3 := by
  intro w x vs st h hb s t val key ao cap cs hk hc
  have HB : Hid (BxS (w.alloc (.cells #[.int .i64 3, .int .i64 s, .string key, .int .i64 t, .int .i64 val, .slice ao cs.length cap] 37)) w.heap.size ⟨3, s, key, t, val, .slice ao cs.length cap, cs⟩) := heap_last _ _ _ rfl
  have HF := hid (alloc_fr w (.cells #[.int .i64 3, .int .i64 s, .string key, .int .i64 t, .int .i64 val, .slice ao cs.length cap] 37) (fun _ => False))
  have HO1 := hid (h.step HF.out)
  have HK1 := hid (hk.step HF.out)
  have HCP := hid hc
  obtain ⟨b0, b1, b2, b3, b4, b5, bl⟩ := HB.out.at
  have HCL := hid (cutK_len cs)
  have HG : Hid (goS vs st ⟨3, s, key, t, val, .slice ao cs.length cap, cs⟩ = []) := rfl
  have HD : Hid (doS vs st ⟨3, s, key, t, val, .slice ao cs.length cap, cs⟩ = ⟨st.ms, wroteL vs (leastL st.ms) (cutK cs) st.L⟩) := rfl
  rw [HG.out, HD.out]
  clear h hk hc HG HD
  simp only at b0 b1 b2 b3 b4 b5
  go_enter Try.func23, Try.ntmps23
  go_wp2_with fail
  refine (cut_any HK1.out HCP.out).mono ?_
  rintro e w2 ⟨u, rfl, hw2, hku⟩
  obtain rfl := hw2
  have HKU := hid hku
  obtain ⟨ao2, cap2, rfl, _, _⟩ := hku
  go_wp2_with fail
  refine (wrote_any HO1.out HKU.out (by have := HCL.out; omega)).mono ?_
  rintro e w3 ⟨rfl, ho3, hf3⟩
  have HO3 := hid ho3
  have HF3 : Hid (Fr w w3 (fun b => b = x.gm ∨ b = x.mb)) := (HF.out.mono (fun _ _ h => h.elim)).trans (hf3.mono (fun _ _ h => Or.inr h))
  clear ho3 hf3
  go_wp2_with fail
  go_ret
  exact ⟨_, rfl, HO3.out, kw_nil _ _, HF3.out⟩

set_option maxHeartbeats 4000000 in
set_option maxRecDepth 100000 in
theorem do_other {k : Int} (k1 : k ≠ 1) (k2 : k ≠ 2) (k3 : k ≠ 3) : DoG k := by
  intro w x vs st h hb s t val key ao cap cs hk hc
  have HB : Hid (BxS (w.alloc (.cells #[.int .i64 k, .int .i64 s, .string key, .int .i64 t, .int .i64 val, .slice ao cs.length cap] 37)) w.heap.size ⟨k, s, key, t, val, .slice ao cs.length cap, cs⟩) := heap_last _ _ _ rfl
  have HF := hid (alloc_fr w (.cells #[.int .i64 k, .int .i64 s, .string key, .int .i64 t, .int .i64 val, .slice ao cs.length cap] 37) (fun _ => False))
  have HO1 := hid (h.step HF.out)
  obtain ⟨b0, b1, b2, b3, b4, b5, bl⟩ := HB.out.at
  have HG : Hid (goS vs st ⟨k, s, key, t, val, .slice ao cs.length cap, cs⟩ = []) := by show goS _ _ _ = _; unfold goS; rw [if_neg k2]
  have HD : Hid (doS vs st ⟨k, s, key, t, val, .slice ao cs.length cap, cs⟩ = st) := by show doS _ _ _ = _; unfold doS; rw [if_neg k1, if_neg k2, if_neg k3]
  rw [HG.out, HD.out]
  have q1 : (k == 1) = false := by simpa using k1
  have q2 : (k == 2) = false := by simpa using k2
  have q3 : (k == 3) = false := by simpa using k3
  clear h hk hc HG HD k1 k2 k3
  simp only at b0 b1 b2 b3 b4 b5
  go_enter Try.func23, Try.ntmps23
  go_wp2_with fail
  go_ret
  exact ⟨_, rfl, HO1.out, kw_nil _ _, HF.out.mono (fun _ _ h => h.elim)⟩
/-- One step. -/
theorem do_any {w : World} {x : Ox} {vs : List Vw} {st : Os2} (h : Op w x vs st.ms st.L) (hb : st.L.length ≤ 900000000) {y : Sf} (hk : Ks w y.cv y.cs) (hc : CapOk y.cv) :
    Calls Try.prog 23 #[.pointer (some ⟨x.B, 0, none⟩), sfV y] w fun e w' => ∃ u, e = .returned u ∧ DoR w w' x vs (doS vs st y) (goS vs st y) u := by
  obtain ⟨k, s, key, t, val, cv, cs⟩ := y
  obtain ⟨ao, cap, hcv, _⟩ := id hk
  dsimp only at hcv hk hc
  subst hcv
  by_cases k1 : k = 1
  · subst k1; exact do_take h hb hk hc
  · by_cases k2 : k = 2
    · subst k2; exact do_mark h hb hk hc
    · by_cases k3 : k = 3
      · subst k3; exact do_wrote h hb hk hc
      · exact do_other k1 k2 k3 h hb hk hc
end Go.Proofs.Ytglkjhpkeelajaa.V
