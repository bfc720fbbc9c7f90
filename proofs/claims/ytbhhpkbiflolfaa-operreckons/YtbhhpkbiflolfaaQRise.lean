/- mark.New, Rise, the law's head: walks. -/
import Derived.Test.YtbhhpkbiflolfaaQBase
namespace Go.Proofs.Ytbhhpkbiflolfaa
open Go.RowKit

/-- The first i marks are none, zeros behind them. -/
def fillM (n i : Nat) : List Int := List.replicate i noM ++ List.replicate (n - i) 0
theorem fillM_length {n i : Nat} (h : i ≤ n) : (fillM n i).length = n := by simp [fillM]; omega
theorem fillM_zero (n : Nat) : fillM n 0 = List.replicate n 0 := by simp [fillM]
theorem fillM_all (n : Nat) : fillM n n = List.replicate n noM := by simp [fillM]
theorem fillM_set {n i : Nat} (h : i < n) : (fillM n i).set i noM = fillM n (i + 1) := by
  have e : n - i = n - (i + 1) + 1 := by omega
  unfold fillM
  rw [List.set_append_right _ _ (by simp), List.length_replicate, Nat.sub_self, e, List.replicate_succ, List.set_cons_zero, List.replicate_succ' (n := i)]
  simp

/-- What New leaves. -/
def NewM (w w' : World) (n : Nat) (e : Ending) : Prop :=
  ∃ B g, e = .returned (.tuple #[.pointer (some ⟨B, 0, none⟩), .int .i64 0]) ∧ Km w' B g (List.replicate n noM) ∧ w.heap.size ≤ B ∧ w.heap.size ≤ g ∧ Fr w w' (fun _ => False)

set_option maxHeartbeats 1000000 in
set_option maxRecDepth 100000 in
theorem new_ok {n : Nat} (h1 : 1 ≤ n) (h8 : n ≤ 8) (w : World) : Calls Try.prog 35 #[.int .i64 (n : Int)] w fun e w' => NewM w w' n e := by
  have t1 : ¬ (n : Int) < 1 := by omega
  have t2 : ¬ 8 < (n : Int) := by omega
  have HOK := hid (OkM.new h1 h8)
  have HMK := hid (fun W : World => run_make_row' (P := Try.prog) 40 2 (.int .i64 0) 8 Try.underlying40 Try.info_i64 rfl .i64 .i64 n (by omega) (by omega) W)
  have hmk := HMK.out w
  go_enter Try.func35, Try.ntmps35
  go_wp2_with fail
  have HR : Hid (RowV (w.alloc (.cells (madeCells #[Value.int .i64 0] n) 2)) w.heap.size (iv (fillM n 0))) := by
    show RowV _ _ _
    unfold RowV
    rw [fillM_zero, heap_last _ _ _ rfl]
    congr 2
    apply Array.ext'
    rw [made_row]
    simp [iv]
  have HC : Hid (((w.alloc (.cells (madeCells #[Value.int .i64 0] n) 2)).alloc (.cells #[.slice (some ⟨w.heap.size, 0, none⟩) n n] 124)).heap[w.heap.size + 1]? = some (.cells #[.slice (some ⟨w.heap.size, 0, none⟩) n n] 124 (0, 0))) := heap_last _ _ _ (by simp)
  have HF : Hid (Fr w ((w.alloc (.cells (madeCells #[Value.int .i64 0] n) 2)).alloc (.cells #[.slice (some ⟨w.heap.size, 0, none⟩) n n] 124)) (fun _ => False)) := (alloc_fr _ _ _).alloc _
  have HR2 := hid (HR.out.fr (alloc_fr _ (.cells #[.slice (some ⟨w.heap.size, 0, none⟩) n n] 124) (fun _ => False)) (fun h => h))
  clear HR hmk HMK
  generalize ((w.alloc (.cells (madeCells #[Value.int .i64 0] n) 2)).alloc (.cells #[.slice (some ⟨w.heap.size, 0, none⟩) n n] 124)) = w3 at *
  go_loopg [5, 21] n (fun k s5 s21 wx => ∃ i : Nat, s21 = .int .i64 (i : Int) ∧ Hid (i + k = n) ∧ Hid (RowV wx w.heap.size (iv (fillM n i))) ∧ Hid (wx.heap[w.heap.size + 1]? = some (.cells #[.slice (some ⟨w.heap.size, 0, none⟩) n n] 124 (0, 0))) ∧ Hid (Fr w wx (fun _ => False)))
  case atStart => exact ⟨0, rfl, by show _ = _; omega, HR2, HC, HF⟩
  case round =>
    obtain ⟨i, rfl, HG, HR3, HC3, HF3⟩ := hrel
    have hc : wr.cell? ⟨w.heap.size + 1, 0, none⟩ = some (.slice (some ⟨w.heap.size, 0, none⟩) n n) := by simp [World.cell?, HC3.out]
    have hlt := lt_of_block HC3.out
    clear HR2 HC HF
    cases gk with
    | zero =>
      have e : i = n := by have := HG.out; omega
      have u1 : ¬ (i : Int) < (n : Int) := by omega
      have HE := hid e
      clear e
      go_wp2_with fail
      go_ret2
      refine ⟨w.heap.size + 1, w.heap.size, rfl, ⟨?_, ?_, HOK.out⟩, by omega, Nat.le_refl _, HF3.out⟩
      · rw [List.length_replicate]
        exact HC3.out
      · have := HR3.out
        rw [HE.out, fillM_all] at this
        exact this
    | succ k =>
      have hi : i < n := by have := HG.out; omega
      have u1 : (i : Int) < (n : Int) := by omega
      have hlen := fillM_length (n := n) (i := i) (by omega)
      have hcr := HR3.out.cell i
      rw [iv_get _ _ (by omega)] at hcr
      have hfz := HR3.out.free i
      have hlt2 := HR3.out.lt
      have HSET := hid (HR3.out.set i (.int .i64 noM))
      have e1 : (iv (fillM n i)).set i (.int .i64 noM) = iv (fillM n (i + 1)) := by
        rw [← fillM_set hi]
        unfold iv
        rw [List.map_set]
      rw [e1] at HSET
      clear e1 hlen
      generalize (fillM n i).getD i 0 = y at *
      have e2 : noM = -4611686018427387904 := rfl
      rw [e2] at HSET
      clear e2
      have HI := hid hi
      clear hi
      go_wp2_with fail
      go_roundg k
      case measure => omega
      case rel =>
        refine ⟨i + 1, by go_num, by have := HG.out; show _ = _; omega, HSET, ?_, HF3.out.setCell (fun h => by simp at h) _⟩
        show _ = _
        rw [Below.heap_setCell _ _ _ _ (by simp)]
        exact HC3.out
theorem new_bad {s : Int} (h : ¬ (1 ≤ s ∧ s ≤ 8)) (w : World) : Calls Try.prog 35 #[.int .i64 s] w fun e w' => e = .returned (.tuple #[.pointer none, .int .i64 1]) ∧ Fr w w' (fun _ => False) := by
  have hc : s < 1 ∨ (¬ s < 1 ∧ 8 < s) := by omega
  clear h
  rcases hc with t1 | ⟨t1, t2⟩
  all_goals
    go_enter Try.func35, Try.ntmps35
    go_wp2
    go_ret2
    exact ⟨rfl, Fr.refl _ _⟩

/-- What Rise answers, and the marks behind it. -/
def riseR (ms : List Int) (s t : Int) : Bool × Int := if hasB ms.length s then (if isT t then (decide (leastL ms < leastL (riseL ms s.toNat t)), 0) else (false, 22)) else (false, 1)
def riseS (ms : List Int) (s t : Int) : List Int := if hasB ms.length s && isT t then riseL ms s.toNat t else ms
theorem max_pick (a b : Int) : max a b = if a ≤ b then b else a := by
  by_cases h : a ≤ b
  · rw [if_pos h, Int.max_eq_right h]
  · rw [if_neg h, Int.max_eq_left (by omega)]

set_option maxHeartbeats 1000000 in
theorem rise_any {w : World} {B g : Nat} {ms : List Int} (h : Km w B g ms) (s t : Int) : Calls Try.prog 38 #[.pointer (some ⟨B, 0, none⟩), .int .i64 s, .int .i64 t] w fun e w' =>
    e = .returned (.tuple #[.bool (riseR ms s t).1, .int .i64 (riseR ms s t).2]) ∧ Km w' B g (riseS ms s t) ∧ Fr w w' (fun b => b = g) := by
  have HH := hid (has_any h s)
  have HT := hid (fun W : World => isTime_any t W)
  have HK := hid h
  clear h
  by_cases hb : hasB ms.length s = true
  · by_cases ht : isT t = true
    · have e : riseR ms s t = (decide (leastL ms < leastL (riseL ms s.toNat t)), 0) := by unfold riseR; rw [if_pos hb, if_pos ht]
      have e2 : riseS ms s t = riseL ms s.toNat t := by unfold riseS; rw [hb, ht]; rfl
      rw [e, e2]
      rw [hb] at HH
      rw [ht] at HT
      have hs : 0 ≤ s ∧ s < (ms.length : Int) := by unfold hasB at hb; exact of_decide_eq_true hb
      have ht' : -1152921504606846976 ≤ t ∧ t ≤ 1152921504606846976 := by unfold isT at ht; exact of_decide_eq_true ht
      clear hb ht e e2
      obtain ⟨k, rfl⟩ : ∃ k : Nat, s = (k : Int) := ⟨s.toNat, by omega⟩
      have hk : k < ms.length := by omega
      have hk2 : (k : Int) < (ms.length : Int) := by omega
      clear hs
      rw [Int.toNat_natCast]
      have HOK := hid (HK.out.ok.rise hk ht')
      go_enter Try.func38, Try.ntmps38
      go_wp2_with fail
      refine HH.out.mono ?_
      rintro e w1 ⟨rfl, hf1⟩
      have HK1 := hid (HK.out.fr hf1 (fun h => h) (fun h => h))
      have HF1 := hid hf1
      clear hf1 HK HH
      go_wp2_with fail
      refine (HT.out _).mono ?_
      rintro e w2 ⟨rfl, hf2⟩
      have HK2 := hid (HK1.out.fr hf2 (fun h => h) (fun h => h))
      have HF2 := hid (HF1.out.trans hf2)
      clear hf2 HK1 HF1 HT
      go_wp2_with fail
      refine (least_any HK2.out).mono ?_
      rintro e w3 ⟨rfl, hf3⟩
      have HK3 := hid (HK2.out.fr hf3 (fun h => h) (fun h => h))
      have HF3 := hid (HF2.out.trans hf3)
      clear hf3 HK2 HF2
      have hc := HK3.out.at
      have hr := HK3.out.get hk
      have hlt := HK3.out.lt.1
      have hlt2 := HK3.out.lt.2
      have hfz := HK3.out.row.free k
      have HS := hid (HK3.out.set (s := k) (x := max (ms.getD k 0) t) HOK.out)
      have HSF : Hid (Fr w (w3.setCell ⟨g, k, none⟩ (.int .i64 (max (ms.getD k 0) t))) (fun b => b = g)) := Fr.setCell (S := fun b => b = g) (p := ⟨g, k, none⟩) (HF3.out.mono (fun _ _ h => h.elim)) (fun _ => rfl) _
      generalize hx : ms.getD k 0 = x at *
      have HX := hid hx
      clear hx
      obtain ⟨L, hL⟩ : ∃ L, L = leastL ms := ⟨_, rfl⟩
      rw [← hL]
      have HL := hid hL
      clear hL
      have HKM : Hid (∀ W : World, Km W B g (ms.set k (max x t)) → Calls Try.prog 39 #[.pointer (some ⟨B, 0, none⟩)] W fun e w' => e = .returned (.int .i64 (leastL (ms.set k (max x t)))) ∧ Fr W w' (fun _ => False)) := fun W hW => least_any hW
      have HRL : Hid (riseL ms k t = ms.set k (max x t)) := by show _ = _; unfold riseL; rw [HX.out]
      by_cases hxt : x < t
      · rw [Int.max_eq_right (by omega)] at HS HSF HKM HRL
        go_wp2_with fail
        go_region
        all_goals
          go_wp2_with fail
          refine (HKM.out _ (by first | exact HS.out | exact HS.out.fr (Fr.refl _ (fun _ => False)).drew (fun h => h) (fun h => h))).mono ?_
          rintro e w5 ⟨rfl, hf5⟩
          have HF5 := hid ((Fr.refl _ (fun _ => False)).drew.trans hf5)
          clear hf5
          go_wp2_with fail
          go_ret2
          rw [HRL.out, ← HL.out]
          exact ⟨rfl, HS.out.fr HF5.out (fun h => h) (fun h => h), HSF.out.trans (HF5.out.mono (fun _ _ h => h.elim))⟩
      · rw [Int.max_eq_left (by omega)] at HS HSF HKM HRL
        go_wp2_with fail
        go_region
        all_goals
          go_wp2_with fail
          refine (HKM.out _ (by first | exact HS.out | exact HS.out.fr (Fr.refl _ (fun _ => False)).drew (fun h => h) (fun h => h))).mono ?_
          rintro e w5 ⟨rfl, hf5⟩
          have HF5 := hid ((Fr.refl _ (fun _ => False)).drew.trans hf5)
          clear hf5
          go_wp2_with fail
          go_ret2
          rw [HRL.out, ← HL.out]
          exact ⟨rfl, HS.out.fr HF5.out (fun h => h) (fun h => h), HSF.out.trans (HF5.out.mono (fun _ _ h => h.elim))⟩
    · have ht' : isT t = false := by simpa using ht
      have e : riseR ms s t = (false, 22) := by unfold riseR; rw [if_pos hb, if_neg ht]
      have e2 : riseS ms s t = ms := by unfold riseS; rw [hb, ht']; rfl
      rw [e, e2]
      rw [hb] at HH
      rw [ht'] at HT
      clear hb ht ht' e e2
      go_enter Try.func38, Try.ntmps38
      go_wp2_with fail
      refine HH.out.mono ?_
      rintro e w1 ⟨rfl, hf1⟩
      have HK1 := hid (HK.out.fr hf1 (fun h => h) (fun h => h))
      have HF1 := hid hf1
      clear hf1 HK HH
      go_wp2_with fail
      refine (HT.out _).mono ?_
      rintro e w2 ⟨rfl, hf2⟩
      have HK2 := hid (HK1.out.fr hf2 (fun h => h) (fun h => h))
      have HF2 := hid (HF1.out.trans hf2)
      clear hf2 HK1 HF1 HT
      go_wp2_with fail
      go_ret2
      exact ⟨rfl, HK2.out, HF2.out.mono (fun _ _ h => h.elim)⟩
  · have hb' : hasB ms.length s = false := by simpa using hb
    have e : riseR ms s t = (false, 1) := by unfold riseR; rw [if_neg hb]
    have e2 : riseS ms s t = ms := by unfold riseS; rw [hb']; rfl
    rw [e, e2]
    rw [hb'] at HH
    clear hb hb' e e2
    go_enter Try.func38, Try.ntmps38
    go_wp2_with fail
    refine HH.out.mono ?_
    rintro e w1 ⟨rfl, hf1⟩
    have HK1 := hid (HK.out.fr hf1 (fun h => h) (fun h => h))
    have HF1 := hid hf1
    clear hf1 HK HH
    go_wp2_with fail
    go_ret2
    exact ⟨rfl, HK1.out, HF1.out.mono (fun _ _ h => h.elim)⟩

theorem twoM : riseR [noM, noM] 0 5 = (false, 0) ∧ riseS [noM, noM] 0 5 = [5, noM] ∧ riseR [5, noM] 1 3 = (true, 0) ∧ riseS [5, noM] 1 3 = [5, 3] ∧ leastL [5, 3] = 3 ∧ ofM [5, 3] 0 = 5 := by decide

end Go.Proofs.Ytbhhpkbiflolfaa
