/- net: told, isAtEnd, isOpen, close, cut, newConn, isFrom1: walks. -/
import Derived.Test.YtedlpefglgleeabNSide3
namespace Go.Proofs.Ytedlpefglgleeab
open Go.RowKit

theorem from1_any (n m : Int) (w : World) : Calls Try.prog 24 #[.int .i64 n, .int .i64 m] w fun e w' => e = .returned (.bool (decide (1 ≤ n ∧ n ≤ m))) ∧ w' = w := by
  by_cases h1 : 1 ≤ n
  · by_cases h2 : n ≤ m
    · rw [decide_eq_true (show 1 ≤ n ∧ n ≤ m from ⟨h1, h2⟩)]
      go_enter Try.func24, Try.ntmps24
      go_wp2_with fail
      go_ret
      exact ⟨rfl, rfl⟩
    · rw [decide_eq_false (show ¬ (1 ≤ n ∧ n ≤ m) from fun h => h2 h.2)]
      go_enter Try.func24, Try.ntmps24
      go_wp2_with fail
      go_ret
      exact ⟨rfl, rfl⟩
  · rw [decide_eq_false (show ¬ (1 ≤ n ∧ n ≤ m) from fun h => h1 h.1)]
    go_enter Try.func24, Try.ntmps24
    go_wp2_with fail
    go_ret
    exact ⟨rfl, rfl⟩
set_option maxHeartbeats 1000000 in
theorem isOpen_any {w : World} {lo a b : Nat} {g : Cm} (h : Cn w lo a b g) : Calls Try.prog 35 #[.pointer (some ⟨g.k, 0, none⟩)] w fun e w' => e = .returned (.bool (!g.x.shut)) ∧ w' = w := by
  obtain ⟨_, _, _, _, c7, c8, hlt⟩ := h.cells
  unfold Cp.shut
  clear h
  cases hc : g.x.cl <;> cases ht : g.x.ct <;> rw [hc] at c7 <;> rw [ht] at c8
  all_goals
    go_enter Try.func35, Try.ntmps35
    go_wp2_with fail
    go_ret
    exact ⟨rfl, rfl⟩
set_option maxHeartbeats 1000000 in
theorem isAtEnd_any {w : World} {lo a b : Nat} {g : Cm} (h : Cn w lo a b g) : Calls Try.prog 39 #[.pointer (some ⟨g.k, 0, none⟩)] w fun e w' => e = .returned (.bool g.x.end_) ∧ w' = w := by
  obtain ⟨_, _, _, _, c7, c8, hlt⟩ := h.cells
  have HG := hid (going_any h)
  unfold Cp.end_
  clear h
  cases hc : g.x.cl <;> cases ht : g.x.ct <;> rw [hc] at c7 <;> rw [ht] at c8
  · go_enter Try.func39, Try.ntmps39
    go_wp2_with fail
    go_ret
    exact ⟨rfl, rfl⟩
  · go_enter Try.func39, Try.ntmps39
    go_wp2_with fail
    go_ret
    exact ⟨rfl, rfl⟩
  · generalize g.x.o.length = n at *
    go_enter Try.func39, Try.ntmps39
    go_wp2_with fail
    refine HG.out.mono ?_
    rintro e w1 ⟨rfl, h9⟩
    obtain rfl : w = w1 := h9.symm
    clear h9
    go_wp2_with fail
    go_ret
    refine ⟨?_, rfl⟩
    cases n with
    | zero => rfl
    | succ n =>
      rw [decide_eq_false (by omega)]
      have e0 : (((n + 1 : Nat) : Int) == 0) = false := by simp; omega
      rw [e0]
      rfl
  · go_enter Try.func39, Try.ntmps39
    go_wp2_with fail
    go_ret
    exact ⟨rfl, rfl⟩
theorem set7 {w : World} {lo a b : Nat} {g : Cm} (h : Cn w lo a b g) : CnA w (w.setCell ⟨g.k, 7, none⟩ (.bool true)) lo a b g { g.x with cl := true } := by
  refine h.flag (fun j => by match j with | 0 => rfl | 1 => rfl | 2 => rfl | _ + 3 => rfl) ?_ (set_fr w g.k 7 _)
  rw [heap_setCell_same w g.k 7 _ _ _ h.cell]
  rfl
theorem set8 {w : World} {lo a b : Nat} {g : Cm} (h : Cn w lo a b g) : CnA w (w.setCell ⟨g.k, 8, none⟩ (.bool true)) lo a b g { g.x with ct := true } := by
  refine h.flag (fun j => by match j with | 0 => rfl | 1 => rfl | 2 => rfl | _ + 3 => rfl) ?_ (set_fr w g.k 8 _)
  rw [heap_setCell_same w g.k 8 _ _ _ h.cell]
  rfl
/-- A call behind something else. -/
theorem CnA.then {w W : World} {lo a b f : Nat} {g : Cm} {x y : Cp} {o : Nat} (h : CnA w W lo a b g x) (k : ∀ g', g'.x = x → Cn W lo a b g' → Calls Try.prog f #[.pointer (some ⟨g'.k, o, none⟩)] W fun e w' => e = .returned (.tuple #[]) ∧ CnA W w' lo a b g' y) : Calls Try.prog f #[.pointer (some ⟨g.k, o, none⟩)] W fun e w' => e = .returned (.tuple #[]) ∧ CnA w w' lo a b g y := by
  obtain ⟨g', hk, hx, hc, hg, hf⟩ := h
  rw [← hk]
  refine (k g' hx hc).mono fun e w2 ⟨he, hA⟩ => ⟨he, ?_⟩
  obtain ⟨g2, k1, k2, k3, k4, k5⟩ := hA
  refine ⟨g2, k1.trans hk, k2, k3, hg.trans k4 hf.size, hf.trans2 k5 (fun k hk ho => ?_)⟩
  rcases hg k ho with h | h
  · exact h
  · omega
set_option maxHeartbeats 1000000 in
theorem close_any {w : World} {lo a b : Nat} {g : Cm} (h : Cn w lo a b g) : Calls Try.prog 34 #[.pointer (some ⟨g.k, 0, none⟩)] w fun e w' => e = .returned (.tuple #[]) ∧ CnA w w' lo a b g { g.x with cl := true, w := [], i := [] } := by
  obtain ⟨_, _, _, _, c7, c8, hlt⟩ := h.cells
  have hf := h.free
  have HL := hid ((set7 h).then (f := 47) (o := 0) (y := { g.x with cl := true, w := [], i := [] }) (fun g' hx hc => by
    have := lose_any hc
    rw [hx] at this
    exact this))
  clear h
  go_enter Try.func34, Try.ntmps34
  go_wp2_with fail
  refine HL.out.mono ?_
  rintro e w1 ⟨rfl, h1⟩
  have H := hid h1
  clear h1
  go_wp2_with fail
  go_end0
  exact ⟨rfl, H.out⟩
set_option maxHeartbeats 1000000 in
theorem cut_any {w : World} {lo a b : Nat} {g : Cm} (h : Cn w lo a b g) : Calls Try.prog 33 #[.pointer (some ⟨g.k, 0, none⟩)] w fun e w' => e = .returned (.tuple #[]) ∧ CnA w w' lo a b g { g.x with ct := true, w := [], i := [], o := [] } := by
  obtain ⟨_, _, _, _, c7, c8, hlt⟩ := h.cells
  have hf := h.free
  have HL := hid ((set8 h).then (f := 47) (o := 0) (y := { g.x with ct := true, w := [], i := [] }) (fun g' hx hc => by
    have := lose_any hc
    rw [hx] at this
    exact this))
  have HE : Hid (∀ W, CnA w W lo a b g { g.x with ct := true, w := [], i := [] } → Calls Try.prog 48 #[.pointer (some ⟨g.k, 4, none⟩)] W fun e w' => e = .returned (.tuple #[]) ∧ CnA w w' lo a b g { g.x with ct := true, w := [], i := [], o := [] }) := fun W hA => hA.then (fun g' hx hc => (empty_any hc.b2 (o := 4) rfl).mono fun e w2 ⟨he, h1, h2⟩ => ⟨he, by
    have := hc.bf2 (bfa_empty (lo := lo) (v := g'.v 2) h1 h2)
    rw [hx] at this
    exact this⟩)
  clear h
  go_enter Try.func33, Try.ntmps33
  go_wp2_with fail
  refine HL.out.mono ?_
  rintro e w1 ⟨rfl, h1⟩
  have H := hid h1
  clear h1
  go_wp2_with fail
  refine (HE.out _ H.out).mono ?_
  rintro e w2 ⟨rfl, h1⟩
  have H2 := hid h1
  clear h1
  go_wp2_with fail
  go_end0
  exact ⟨rfl, H2.out⟩
/-- A slice that has no room, behind a block that was just made. -/
theorem of_none (w : World) (cs : Array Value) (e t : TypeId) : Of e (w.alloc (.cells cs t)) w.heap.size (.slice (some ⟨w.heap.size, 0, none⟩) 0 0) [] := ⟨some ⟨w.heap.size, 0, none⟩, 0, 0, 0, rfl, by simp, by unfold maxLen; omega, fun a ha => by cases ha; exact ⟨Nat.le_refl _, by simp⟩, fun h => by omega⟩
set_option maxHeartbeats 1000000 in
set_option maxRecDepth 100000 in
theorem clone_any {w : World} {lo : Nat} {v : Value} {xs : List Nat} (h : Rw w lo 5 v xs) (hl : xs.length ≤ 140737488355328) : Calls Try.prog 49 #[v] w fun e w' => ∃ u, e = .returned u ∧ Rw w' w.heap.size 5 u xs ∧ Fr w w' (fun _ => False) := by
  obtain ⟨i0, hi, hz0, hz1, hz2⟩ := info_parts Try.info5
  have q0 : ∀ W : World, (binOp .eql 22 (.slice none 0 0) (.slice none 0 0)).run Try.prog W = .ok (.bool true) W := fun W => by kernel_rfl
  have q1 : ∀ (W : World) (a : Addr) (n c : Nat), (binOp .eql 22 (.slice (some a) n c) (.slice none 0 0)).run Try.prog W = .ok (.bool false) W := fun W a n c => by kernel_rfl
  rcases h with ⟨rfl, rfl⟩ | ⟨hx, hof⟩
  · go_enter Try.func49, Try.ntmps49
    go_wp2_with fail
    go_ret
    exact ⟨_, rfl, Rw.nil _ _ _, Fr.refl _ _⟩
  · have hrw := of_rw hof hx
    obtain ⟨ao, cap, rfl, _, _⟩ := hof.shape
    obtain ⟨b, off, rfl⟩ := hof.addr (List.length_pos_iff.2 hx)
    have HB := hid (bs_all hrw)
    have HX := hid hx
    clear hrw hof hx
    go_enter Try.func49, Try.ntmps49
    go_wp2_with (at_builtin; refine wpList_append_of _ rfl (.tmp 5) (.tmp 6) 22 rfl w.heap.size 5 i0 Try.underlying22 hi hz0 hz1 hz2 _ [] (by rfl) (of_none _ _ _ _) _ xs (by rfl) (HB.out.fr (alloc_fr _ _ (fun _ => False)) (fun _ _ h => h)) (by simpa using hl) (by simp) ?_)
    intro v' w' h1 h2 h3
    have HR : Hid (Rw w' w.heap.size 5 v' xs) := of_rw (by simpa using h1) HX.out
    have HF : Hid (Fr w w' (fun _ => False)) := Fr.trans2 (alloc_fr w _ (fun _ => False)) (Fr.grown (S := fun k => k = w.heap.size) (Fr.refl _ _) h2 (fun k _ e => by simp [Value.ownBlock] at e; exact e.symm)) (fun k hk e => by omega)
    clear h1 h2 h3
    go_wp2_with fail
    go_ret
    exact ⟨_, rfl, HR.out, HF.out⟩
set_option maxHeartbeats 1000000 in
theorem told_any {w : World} {lo a b : Nat} {g : Cm} (h : Cn w lo a b g) (hl : g.x.h.length ≤ 140737488355328) : Calls Try.prog 38 #[.pointer (some ⟨g.k, 4, none⟩)] w fun e w' => ∃ u, e = .returned u ∧ Rw w' w.heap.size 5 u g.x.h ∧ Fr w w' (fun _ => False) := by
  obtain ⟨_, _, _, c6, _, _, hlt⟩ := h.cells
  have hrow := h.row 3 (by omega)
  change Rw w lo 5 (g.v 3) g.x.h at hrow
  have HC := hid (clone_any hrow hl)
  obtain ⟨ao, cap, e3, _⟩ := hrow.shape
  clear h hrow
  rw [e3] at c6 HC
  clear e3
  go_enter Try.func38, Try.ntmps38
  go_wp2_with fail
  refine HC.out.mono ?_
  rintro e w1 ⟨u, rfl, h1⟩
  have H := hid h1
  clear h1
  go_wp2_with fail
  go_ret
  exact ⟨_, rfl, H.out⟩
set_option maxHeartbeats 1000000 in
theorem newConn_any (w : World) (lo a b : Nat) (hlo : lo ≤ w.heap.size) : Calls Try.prog 25 #[.int .i64 (a : Int), .int .i64 (b : Int)] w fun e w' => ∃ g, e = .returned (.pointer (some ⟨g.k, 0, none⟩)) ∧ g.x = cp0 ∧ Cn w' lo a b g ∧ (∀ k, g.ow k → w.heap.size ≤ k) ∧ Fr w w' (fun _ => False) := by
  go_enter Try.func25, Try.ntmps25
  go_wp2_with fail
  go_ret
  refine ⟨⟨w.heap.size, fun _ => .slice none 0 0, cp0⟩, rfl, rfl, ⟨heap_alloc_new w _, fun i hi => ?_, fun i j k _ _ h => by simp [Value.ownBlock] at h, hlo⟩, fun k hk => ?_, alloc_fr w _ _⟩
  · have e : cp0.r i = [] := by
      match i with
      | 0 => rfl
      | 1 => rfl
      | 2 => rfl
      | _ + 3 => rfl
    show Rw _ _ _ (.slice none 0 0) (cp0.r i)
    rw [e]
    exact Rw.nil _ _ _
  · rcases hk with rfl | ⟨i, _, h⟩
    · exact Nat.le_refl _
    · simp [Value.ownBlock] at h
end Go.Proofs.Ytedlpefglgleeab
