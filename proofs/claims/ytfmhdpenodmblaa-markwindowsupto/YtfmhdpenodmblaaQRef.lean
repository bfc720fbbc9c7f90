/- The document's marks in memory; its Of, Least, Rise, New: walks. -/
import Derived.Test.YtfmhdpenodmblaaQWith
import Derived.Laws.AppendOwnNone
import Derived.Laws.OwnMore
import Derived.Maps.AppendAt
import Derived.Deep.DeepMust
import Derived.OwnWalk
namespace Go.Proofs.Ytfmhdpenodmblaa
open Go.RowKit

/-- The document's marks at block C, their row at block g. -/
structure Rm (w : World) (base C g cap : Nat) (ms : List Int) : Prop where
  cell : w.heap[C]? = some (.cells #[.slice (some ⟨g, 0, none⟩) ms.length cap] 66 (0, 0))
  own : w.ownsRow base 2 1 (.slice (some ⟨g, 0, none⟩) ms.length cap) ms.length (iv ms)
  ok : OkM ms
theorem Rm.lt {w : World} {base C g cap : Nat} {ms : List Int} (h : Rm w base C g cap ms) : C < w.heap.size ∧ g < w.heap.size ∧ base ≤ g := ⟨lt_of_block h.cell, own_lt h.own rfl, (h.own.lt g rfl).1⟩
theorem Rm.fr {w w' : World} {S : Nat → Prop} {base C g cap : Nat} {ms : List Int} (h : Rm w base C g cap ms) (hf : Fr w w' S) (hC : ¬ S C) (hg : ¬ S g) : Rm w' base C g cap ms :=
  ⟨by rw [hf.block C h.lt.1 hC]; exact h.cell, own_fr h.own hf (fun k hk => by simp [Value.ownBlock] at hk; subst hk; exact hg), h.ok⟩
theorem Rm.ne {w : World} {base C g cap : Nat} {ms : List Int} (h : Rm w base C g cap ms) : C ≠ g := fun e => own_ne h.own h.cell (by decide) (by simp [Value.ownBlock, e])
theorem Rm.at {w : World} {base C g cap : Nat} {ms : List Int} (h : Rm w base C g cap ms) : w.cell? ⟨C, 0, none⟩ = some (.slice (some ⟨g, 0, none⟩) ms.length cap) := by
  simp [World.cell?, h.cell]
theorem Rm.get {w : World} {base C g cap : Nat} {ms : List Int} (h : Rm w base C g cap ms) {i : Nat} (hi : i < ms.length) : w.cell? ⟨g, i, none⟩ = some (.int .i64 (ms.getD i 0)) := by
  rw [h.own.cellAt i (by omega), iv_get _ _ hi]
theorem Rm.set {w : World} {base C g cap : Nat} {ms : List Int} (h : Rm w base C g cap ms) {s : Nat} {x : Int} (hok : OkM (ms.set s x)) : Rm (w.setCell ⟨g, s, none⟩ (.int .i64 x)) base C g cap (ms.set s x) := by
  refine ⟨?_, ?_, hok⟩
  · rw [Below.heap_setCell _ _ _ _ (by simpa using h.ne), List.length_set]
    exact h.cell
  · have := (h.own.stored s (.int .i64 x)).1
    have e : (iv ms).set s (.int .i64 x) = iv (ms.set s x) := by unfold iv; rw [List.map_set]
    rw [e] at this
    rw [List.length_set]
    exact this

theorem rof_any {w : World} {base C g cap : Nat} {ms : List Int} (h : Rm w base C g cap ms) (s : Int) : Calls Try.prog 18 #[.pointer (some ⟨C, 0, none⟩), .int .i64 s] w fun e w' => e = .returned (.int .i64 (ofM ms s)) ∧ Fr w w' (fun _ => False) := by
  have hc := h.at
  have hlt := h.lt.1
  have hlt2 := h.lt.2.1
  have HK := hid h
  clear h
  by_cases h0 : s < 0
  · have e : ofM ms s = -4611686018427387904 := by unfold ofM hasB; rw [if_neg (by simp; omega)]; rfl
    rw [e]
    clear e
    go_enter Try.func18, Try.ntmps18
    go_wp2
    go_ret
    exact ⟨rfl, Fr.refl _ _⟩
  · obtain ⟨k, rfl⟩ : ∃ k : Nat, s = (k : Int) := ⟨s.toNat, by omega⟩
    by_cases h1 : (ms.length : Int) ≤ (k : Int)
    · have e : ofM ms (k : Int) = -4611686018427387904 := by unfold ofM hasB; rw [if_neg (by simp; omega)]; rfl
      rw [e]
      clear e
      go_enter Try.func18, Try.ntmps18
      go_wp2
      go_ret
      exact ⟨rfl, Fr.refl _ _⟩
    · have hk : k < ms.length := by omega
      have hk2 : (k : Int) < (ms.length : Int) := by omega
      have e : ofM ms (k : Int) = ms.getD k 0 := by unfold ofM hasB; rw [if_pos (decide_eq_true ⟨by omega, by omega⟩), Int.toNat_natCast]
      rw [e]
      clear e
      have hr := HK.out.get hk
      obtain ⟨x, hx⟩ : ∃ x, x = ms.getD k 0 := ⟨_, rfl⟩
      rw [← hx] at hr ⊢
      clear hx
      go_enter Try.func18, Try.ntmps18
      go_wp2
      go_ret
      exact ⟨rfl, Fr.refl _ _⟩

set_option maxHeartbeats 1000000 in
theorem rleast_any {w : World} {base C g cap : Nat} {ms : List Int} (h : Rm w base C g cap ms) : Calls Try.prog 16 #[.pointer (some ⟨C, 0, none⟩)] w fun e w' => e = .returned (.int .i64 (leastL ms)) ∧ Fr w w' (fun _ => False) := by
  have hc := h.at
  have hlt := h.lt.1
  have hlt2 := h.lt.2.1
  have h0 : 0 < ms.length := by have := h.ok.one; omega
  have hms := h.ok.most
  have hr0 := h.get h0
  have e0 : ms.getD 0 0 = headM ms := by
    unfold headM
    cases ms with
    | nil => simp at h0
    | cons y ys => rfl
  rw [e0] at hr0
  clear e0
  have HK := hid h
  clear h
  have hle : leastL ms = ms.foldl min (headM ms) := rfl
  rw [hle]
  clear hle
  have h01 : (0 : Int) < (ms.length : Int) := by omega
  go_enter Try.func16, Try.ntmps16
  go_wp2_with fail
  clear hr0
  go_loopg [3, 4] ms.length (fun n s3 s4 wx => ∃ i : Nat, s4 = .int .i64 (i : Int) ∧ Hid (i + n = ms.length) ∧ s3 = .int .i64 ((ms.take i).foldl min (headM ms)) ∧ wx = w)
  case atStart => exact ⟨0, rfl, by show _ = _; omega, rfl, rfl⟩
  case round =>
    obtain ⟨i, rfl, HG, rfl, rfl⟩ := hrel
    cases gk with
    | zero =>
      have e : i = ms.length := by have := HG.out; omega
      have t1 : ¬ (i : Int) < (ms.length : Int) := by omega
      have e2 : (ms.take i).foldl min (headM ms) = ms.foldl min (headM ms) := by rw [e, List.take_length]
      rw [e2]
      obtain ⟨L, hL⟩ : ∃ L, L = ms.foldl min (headM ms) := ⟨_, rfl⟩
      rw [← hL]
      have HL := hid hL
      clear hL e e2
      go_wp2_with fail
      go_ret
      exact ⟨by rw [← HL.out]; rfl, Fr.refl _ _⟩
    | succ n =>
      have hi : i < ms.length := by have := HG.out; omega
      have t1 : (i : Int) < (ms.length : Int) := by omega
      have hr := HK.out.get hi
      have HT := hid (take_min hi (headM ms))
      generalize (ms.take i).foldl min (headM ms) = a at *
      generalize ms.getD i 0 = b at *
      clear hi
      have hcase : (b < a ∧ min a b = b) ∨ (¬ b < a ∧ min a b = a) := by omega
      rcases hcase with ⟨hab, hmn⟩ | ⟨hab, hmn⟩
      all_goals
        rw [hmn] at HT
        clear hmn
        go_wp2_with fail
        go_roundg n
        case measure => omega
        case rel => exact ⟨i + 1, by go_num, by have := HG.out; show _ = _; omega, by rw [HT.out], rfl⟩

theorem fitsL {ms : List Int} (h : OkM ms) : fits (leastL ms) := h.fits _ (leastL_mem h.one)
set_option maxHeartbeats 1000000 in
theorem rrise_any {w : World} {base C g cap : Nat} {ms : List Int} (h : Rm w base C g cap ms) (s t : Int) : Calls Try.prog 14 #[.pointer (some ⟨C, 0, none⟩), .int .i64 s, .int .i64 t] w fun e w' =>
    e = .returned (.tuple #[.bool (riseR ms s t).1, .int .i64 (riseR ms s t).2]) ∧ Rm w' base C g cap (riseS ms s t) ∧ Fr w w' (fun b => b = g) := by
  have hc := h.at
  have hlt := h.lt.1
  have hlt2 := h.lt.2.1
  have hms := h.ok.most
  have HK := hid h
  clear h
  by_cases hb : hasB ms.length s = true
  · have hs : 0 ≤ s ∧ s < (ms.length : Int) := by unfold hasB at hb; exact of_decide_eq_true hb
    obtain ⟨k, rfl⟩ : ∃ k : Nat, s = (k : Int) := ⟨s.toNat, by omega⟩
    have hk : k < ms.length := by omega
    have hk2 : (k : Int) < (ms.length : Int) := by omega
    have hk3 : ¬ (ms.length : Int) ≤ (k : Int) := by omega
    by_cases ht : isT t = true
    · have e : riseR ms (k : Int) t = (decide (leastL ms < leastL (riseL ms k t)), 0) := by unfold riseR; rw [if_pos hb, if_pos ht, Int.toNat_natCast]
      have e2 : riseS ms (k : Int) t = riseL ms k t := by unfold riseS; rw [hb, ht, Int.toNat_natCast]; rfl
      rw [e, e2]
      have ht' : -1152921504606846976 ≤ t ∧ t ≤ 1152921504606846976 := by unfold isT at ht; exact of_decide_eq_true ht
      have u1 : ¬ t < -1152921504606846976 := by omega
      have u2 : ¬ 1152921504606846976 < t := by omega
      clear hb ht e e2 hs
      have HOK := hid (HK.out.ok.rise hk ht')
      clear ht'
      go_enter Try.func14, Try.ntmps14
      go_wp2_with fail
      refine (rleast_any HK.out).mono ?_
      rintro e w3 ⟨rfl, hf3⟩
      have HK3 := hid (HK.out.fr hf3 (fun h => h) (fun h => h))
      have HF3 := hid hf3
      clear hf3 hc hlt hlt2 HK
      have hc := HK3.out.at
      have hr := HK3.out.get hk
      have hlt := HK3.out.lt.1
      have hlt2 := HK3.out.lt.2.1
      have hfz := HK3.out.own.frozenAt k
      have HS := hid (HK3.out.set (s := k) (x := max (ms.getD k 0) t) HOK.out)
      have HSF : Hid (Fr w (w3.setCell ⟨g, k, none⟩ (.int .i64 (max (ms.getD k 0) t))) (fun b => b = g)) := Fr.setCell (S := fun b => b = g) (p := ⟨g, k, none⟩) (HF3.out.mono (fun _ _ h => h.elim)) (fun _ => rfl) _
      generalize hx : ms.getD k 0 = x at *
      have HX := hid hx
      clear hx
      obtain ⟨L, hL⟩ : ∃ L, L = leastL ms := ⟨_, rfl⟩
      rw [← hL]
      have HL := hid hL
      clear hL
      have HKM : Hid (∀ W : World, Rm W base C g cap (ms.set k (max x t)) → Calls Try.prog 16 #[.pointer (some ⟨C, 0, none⟩)] W fun e w' => e = .returned (.int .i64 (leastL (ms.set k (max x t)))) ∧ Fr W w' (fun _ => False)) := fun W hW => rleast_any hW
      have HRL : Hid (riseL ms k t = ms.set k (max x t)) := by show _ = _; unfold riseL; rw [HX.out]
      by_cases hxt : x < t
      · rw [Int.max_eq_right (by omega)] at HS HSF HKM HRL
        go_wp2_with fail
        refine (HKM.out _ HS.out).mono ?_
        rintro e w5 ⟨rfl, hf5⟩
        have HF5 := hid hf5
        clear hf5
        go_wp2_with fail
        go_ret2
        rw [HRL.out, ← HL.out]
        exact ⟨rfl, HS.out.fr HF5.out (fun h => h) (fun h => h), HSF.out.trans (HF5.out.mono (fun _ _ h => h.elim))⟩
      · rw [Int.max_eq_left (by omega)] at HKM HRL
        have e3 : ms.set k x = ms := by
          have h1 : x = ms[k] := by rw [← HX.out]; simp [List.getD, hk]
          rw [h1, List.set_getElem_self]
        rw [e3] at HKM HRL
        clear HS HSF e3
        go_wp2_with fail
        refine (HKM.out _ HK3.out).mono ?_
        rintro e w5 ⟨rfl, hf5⟩
        have HF5 := hid hf5
        clear hf5
        go_wp2_with fail
        go_ret2
        rw [HRL.out, ← HL.out]
        exact ⟨rfl, HK3.out.fr HF5.out (fun h => h) (fun h => h), (HF3.out.trans HF5.out).mono (fun _ _ h => h.elim)⟩
    · have ht' : isT t = false := by simpa using ht
      have e : riseR ms (k : Int) t = (false, 22) := by unfold riseR; rw [if_pos hb, if_neg ht]
      have e2 : riseS ms (k : Int) t = ms := by unfold riseS; rw [hb, ht']; rfl
      rw [e, e2]
      have hcase : t < -1152921504606846976 ∨ (¬ t < -1152921504606846976 ∧ 1152921504606846976 < t) := by
        unfold isT at ht
        simp at ht
        omega
      clear hb ht ht' e e2 hs
      rcases hcase with u1 | ⟨u1, u2⟩
      all_goals
        go_enter Try.func14, Try.ntmps14
        go_wp2_with fail
        go_ret2
        exact ⟨rfl, HK.out, Fr.refl _ _⟩
  · have hb' : hasB ms.length s = false := by simpa using hb
    have e : riseR ms s t = (false, 1) := by unfold riseR; rw [if_neg hb]
    have e2 : riseS ms s t = ms := by unfold riseS; rw [hb']; rfl
    rw [e, e2]
    have hcase : s < 0 ∨ (¬ s < 0 ∧ (ms.length : Int) ≤ s) := by
      unfold hasB at hb
      simp at hb
      omega
    clear hb hb' e e2
    rcases hcase with u1 | ⟨u1, u2⟩
    all_goals
      go_enter Try.func14, Try.ntmps14
      go_wp2_with fail
      go_ret2
      exact ⟨rfl, HK.out, Fr.refl _ _⟩

theorem info_parts {o : Option TypeInfo} {z : Value} {n b : Nat} (h : o.map (fun i => (i.zero, i.size, i.bytes)) = some (some z, n, b)) : ∃ i, o = some i ∧ i.zero = some z ∧ i.size = n ∧ i.bytes = b := by
  obtain ⟨i, hi, hx⟩ := Option.map_eq_some_iff.1 h
  simp only [Prod.mk.injEq] at hx
  exact ⟨i, hi, hx.1, hx.2.1, hx.2.2⟩
/-- What the document's New leaves. -/
def RNewM (w w' : World) (n : Nat) (e : Ending) : Prop :=
  ∃ g cap, e = .returned (.tuple #[.pointer (some ⟨w.heap.size, 0, none⟩), .int .i64 0]) ∧ Rm w' (w.heap.size + 1) w.heap.size g cap (List.replicate n noM) ∧ Fr w w' (fun _ => False)
/-- What stands in its rounds. -/
structure RN (w wx : World) (v : Value) (i : Nat) : Prop where
  cell : wx.heap[w.heap.size]? = some (.cells #[v] 66 (0, 0))
  own : wx.ownsRow (w.heap.size + 1) 2 1 v i (iv (List.replicate i noM))
  fr : Fr w wx (fun _ => False)
theorem RN.grow {w wx w1 : World} {v v' : Value} {i : Nat} (h : RN w wx v i) (o : Obj) (hown : w1.ownsRow (w.heap.size + 1) 2 1 v' (i + 1) (iv (List.replicate i noM) ++ [.int .i64 (-4611686018427387904)])) (hg : (wx.alloc o).grownBy w1 v.ownBlock) :
    w1.heap[w.heap.size]? = some (.cells #[v] 66 (0, 0)) ∧ RN w (w1.setCell ⟨w.heap.size, 0, none⟩ v') v' (i + 1) := by
  have hlt := lt_of_block h.cell
  have hne := own_ne h.own h.cell (by decide)
  have hc : w1.heap[w.heap.size]? = some (.cells #[v] 66 (0, 0)) := by
    rw [hg.block _ (by simp; omega) (fun e => hne e.symm), Below.heap_alloc wx o _ hlt]
    exact h.cell
  have hb1 : ∀ k, v.ownBlock = some k → w.heap.size + 1 ≤ k := fun k hk => (h.own.lt k hk).1
  refine ⟨hc, ?_, ?_, ?_⟩
  · exact one_setCell hc
  · have e : iv (List.replicate i noM) ++ [.int .i64 (-4611686018427387904)] = iv (List.replicate (i + 1) noM) := by
      rw [List.replicate_succ', iv_append]
      rfl
    rw [e] at hown
    exact ownsRow_setCell_other hown (own_ne hown hc (by decide)) _
  · exact Fr.setCell ((h.fr.alloc o).grown hg (fun k hk e => by have := hb1 k e; omega)) (fun h => by simp at h) _

set_option maxHeartbeats 1000000 in
theorem rnew_ok {n : Nat} (h1 : 1 ≤ n) (h8 : n ≤ 8) (w : World) : Calls Try.prog 12 #[.int .i64 (n : Int)] w fun e w' => RNewM w w' n e := by
  have t1 : ¬ (n : Int) < 1 := by omega
  have t2 : ¬ 8 < (n : Int) := by omega
  have HOK := hid (OkM.new h1 h8)
  obtain ⟨i0, hinfo, hz0, hz1, hz2⟩ := info_parts Try.info_i64
  go_enter Try.func12, Try.ntmps12
  go_wp2_with fail
  have HS : Hid (RN w (w.alloc (.cells #[.slice none 0 0] 66)) (.slice none 0 0) 0) := ⟨heap_last _ _ _ rfl, ⟨rfl, Or.inl ⟨rfl, rfl⟩⟩, alloc_fr _ _ _⟩
  generalize w.alloc (.cells #[.slice none 0 0] 66) = w3 at *
  go_loopg [5] n (fun k s5 wx => ∃ i : Nat, ∃ v : Value, s5 = .int .i64 (i : Int) ∧ Hid (i + k = n) ∧ Hid (RN w wx v i))
  case atStart => exact ⟨0, _, rfl, by show _ = _; omega, HS⟩
  case round =>
    obtain ⟨i, v, rfl, HG, HS1⟩ := hrel
    clear HS
    obtain ⟨ao, cap, rfl⟩ := own_nil_shape HS1.out.own
    have hc := cell_of_one HS1.out.cell
    have hf := free_of_one HS1.out.cell
    have hlt := lt_of_block HS1.out.cell
    cases gk with
    | zero =>
      have e : i = n := by have := HG.out; omega
      have u1 : ¬ (i : Int) < (n : Int) := by omega
      have HE := hid e
      clear e
      go_wp2_with fail
      go_ret2
      have hi0 : 0 < i := by have := HE.out; omega
      rcases HS1.out.own.2 with ⟨_, h0⟩ | ⟨g, cap', cur, hx, _⟩
      · omega
      · simp only [Value.slice.injEq] at hx
        obtain ⟨rfl, _, rfl⟩ := hx
        have e := HE.out
        subst e
        refine ⟨g, cap, rfl, ⟨?_, ?_, HOK.out⟩, HS1.out.fr⟩
        · rw [List.length_replicate]
          exact HS1.out.cell
        · rw [List.length_replicate]
          exact HS1.out.own
    | succ k =>
      have hi : i < n := by have := HG.out; omega
      have u1 : (i : Int) < (n : Int) := by omega
      have HI := hid hi
      clear hi
      go_wp2_with (at_builtin; go_must (refine wpList_append_own_at _ rfl (.tmp 23) (.tmp 24) 43 rfl (w.heap.size + 1) 2 i0 (.int .i64 0) 1 8 Try.underlying43 hinfo hz0 hz1 hz2 rfl (by decide) _ _ _ rfl (HS1.out.own.alloc _) ⟨wr.heap.size, 0, none⟩ 1 1 [.int .i64 (-4611686018427387904)] rfl rfl (cells_new _ _ _) ?c2 ?c3 ?c4 ?c5 ?_))
      case c2 => intro x hx; simp at hx; subst hx; rfl
      case c3 => have := HI.out; unfold maxLen; omega
      case c4 => have := HI.out; omega
      case c5 => simp; omega
      intro v' w1 hown hgrow _ hat
      have HG2 := hid (HS1.out.grow _ hown hgrow)
      obtain ⟨ao', cap', rfl⟩ := own_nil_shape hown
      have hc1 := cell_of_one HG2.out.1
      have hf1 := free_of_one HG2.out.1
      have hlt1 := lt_of_block HG2.out.1
      clear hown hgrow hat hc hf hlt
      go_wp2_with fail
      go_roundg k
      case measure => omega
      case rel => exact ⟨i + 1, _, by go_num, by have := HG.out; show _ = _; omega, HG2.out.2⟩
theorem rnew_bad {s : Int} (h : ¬ (1 ≤ s ∧ s ≤ 8)) (w : World) : Calls Try.prog 12 #[.int .i64 s] w fun e w' => e = .returned (.tuple #[.pointer none, .int .i64 1]) ∧ Fr w w' (fun _ => False) := by
  have hc : s < 1 ∨ (¬ s < 1 ∧ 8 < s) := by omega
  clear h
  rcases hc with t1 | ⟨t1, t2⟩
  all_goals
    go_enter Try.func12, Try.ntmps12
    go_wp2
    go_ret2
    exact ⟨rfl, Fr.refl _ _⟩
end Go.Proofs.Ytfmhdpenodmblaa
