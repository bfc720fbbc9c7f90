/- AggFits: its walk. -/
import Derived.Test.YtihaolalbaammaaDoorAKnown
import Derived.Test.YtihaolalbaammaaDoorALeast
import Derived.Test.YtihaolalbaammaaDoorAAs
import Derived.Deep.QuietTactic
import Derived.BigQuiet
import Derived.WalkSmall
namespace Go.Proofs.YtihaolalbaammaaDoor
open Go.RowKit

theorem joinE_sum (a b : Ag) (hc : fits (a.c + b.c)) : (fits (a.s + b.s) → joinE a b = .ok ⟨a.c + b.c, a.s + b.s, min a.lo b.lo, max a.hi b.hi⟩) ∧ (¬ fits (a.s + b.s) → joinE a b = .error (a.s, b.s)) := by
  unfold joinE
  rw [if_pos hc]
  exact ⟨fun h => if_pos h, fun h => if_neg h⟩
/-- A Put of a few values: just the sum decides. -/
theorem putE_sum (a : Ag) (x : Int) (hc : fits (a.c + 1)) : (fits (a.s + x) → ∃ r, putE a x = .ok r ∧ r.s = a.s + x) ∧ (¬ fits (a.s + x) → putE a x = .error (a.s, x)) := by
  unfold putE
  by_cases h0 : a.c = 0
  · rw [if_pos h0]
    have h := joinE_sum ⟨a.c, a.s, x, x⟩ ⟨1, x, x, x⟩ hc
    exact ⟨fun k => ⟨_, h.1 k, rfl⟩, fun k => h.2 k⟩
  · rw [if_neg h0]
    have h := joinE_sum a ⟨1, x, x, x⟩ hc
    exact ⟨fun k => ⟨_, h.1 k, rfl⟩, fun k => h.2 k⟩

/-- The handle of the type error, where errors.As looks it up. -/
def Hnd (w : World) : Prop := w.cell? ⟨0, 0, none⟩ = some (.iface 63 (.agg #[.pointer (some ⟨1, 25, none⟩)]))
theorem Hnd.fr {w w' : World} (h : Hnd w) (hf : Fr w w' (fun _ => False)) : Hnd w' := by
  unfold Hnd
  rw [(fr_rules hf).1 0 0 (World.block_lt_of_cell? w _ h)]
  exact h

/-- errors.As at an *Overflow, the target a variable of its own: it is set, and nothing else that stood has turned. -/
theorem as_over (o T : Nat) (w : World) (hg : Hnd w) (ht : w.heap[T]? = some (.cells #[.pointer none] 32 (0, 0))) :
    Calls Tryd.prog 7 #[.iface 32 (.pointer (some ⟨o, 0, none⟩)), .iface 34 (.pointer (some ⟨T, 0, none⟩))] w fun e w' =>
      e = .returned (.bool true) ∧ w'.heap[T]? = some (.cells #[.pointer (some ⟨o, 0, none⟩)] 32 (0, 0)) ∧ Fr w w' (fun k => k = T) := by
  have h0 : w.cell? ⟨T, 0, none⟩ = some (.pointer none) := by rw [cell_of_row _ _ _ _ _ (0, 0) ht]; rfl
  have h1 : w.frozen? ⟨T, 0, none⟩ = false := by simp [World.frozen?, ht]
  refine (as_hit ⟨o, 0, none⟩ ⟨T, 0, none⟩ _ w hg h0 h1).mono fun e w' ⟨he, hw⟩ => ⟨he, ?_, ?_⟩
  · rw [hw]
    have hlt := lt_of_block ht
    have hh : ((((w.alloc (.cells #[.pointer (some ⟨T, 0, none⟩)] 34)).alloc (.cells #[.pointer (some ⟨1, 34, none⟩), .pointer (some ⟨w.heap.size, 0, none⟩), .int .u64 150] 45)).alloc (.cells #[.pointer (some ⟨1, 34, none⟩), .pointer (some ⟨w.heap.size, 0, none⟩), .int .u64 150] 45)).alloc (.cells #[.pointer (some ⟨o, 0, none⟩)] 32)).heap[T]? = some (.cells #[.pointer none] 32 (0, 0)) := by
      rw [Below.heap_alloc _ _ _ (by simp; omega), Below.heap_alloc _ _ _ (by simp; omega), Below.heap_alloc _ _ _ (by simp; omega), Below.heap_alloc _ _ _ hlt]
      exact ht
    rw [heap_setCell_same _ T 0 _ _ _ hh]
    rfl
  · rw [hw]
    have h0 : Fr w w (fun k => k = T) := Fr.refl w _
    exact ((((h0.alloc _).alloc _).alloc _).alloc _).setCell (p := ⟨T, 0, none⟩) (fun _ => rfl) _

/-- What stands in the rounds. -/
structure FitsIn (w wr : World) (a : Ag) (xs : List Int) : Prop where
  fr : Fr w wr (fun _ => False)
  at_ : foldE Ag.zero xs = .ok a
  fine : a.ok

set_option maxHeartbeats 4000000 in
set_option maxRecDepth 100000 in
theorem fits_walk (v : Value) (xs : List Int) (w : World) (hv : Is w v xs) (hg : Hnd w) :
    Calls Tryd.prog 3 #[v] w fun e w' => e = .returned (.bool true) ∧ Fr w w' (fun _ => False) := by
  obtain ⟨ao, cap, rfl, hlen, hfit, hcell⟩ := id hv
  have HV := hid hv
  have HC := hid hcell
  have HFIT := hid hfit
  have HG := hid hg
  clear hfit hcell hv hg
  go_enter Tryd.func3, Tryd.ntmps3
  go_wp2_with fail
  refine (known_any _).mono ?_
  rintro e w1 ⟨rfl, hf1⟩
  have HF1 := hid hf1
  clear hf1
  by_cases h5 : 5000 < xs.length
  · have t2 : (5000 : Int) < (xs.length : Int) := by omega
    go_wp2_with fail
    go_ret
    exact ⟨rfl, HF1.out⟩
  have t2 : ¬ (5000 : Int) < (xs.length : Int) := by omega
  go_wp2_with fail
  go_loopw [3, 4] (fun s i wr => ∃ (k : Nat) (a : Ag), k ≤ xs.length ∧ i = .int .i64 (k : Int) ∧ s = .int .i64 a.s ∧ wr = w1 ∧ Hid (FitsIn w w1 a (xs.take k))) (fun _ i _ => xs.length - (intOf i).toNat)
  case atStart => exact ⟨0, Ag.zero, Nat.zero_le _, rfl, rfl, rfl, hid ⟨HF1.out, rfl, by decide, by decide, by decide, by decide⟩⟩
  case round =>
    obtain ⟨k, a, hk, rfl, rfl, rfl, HI⟩ := hrel
    by_cases hlt : k < xs.length
    · obtain ⟨b, off, rfl, hck⟩ := HC.out (by intro e; subst e; simp at hlt)
      have t1 : (k : Int) < (xs.length : Int) := by omega
      have hxk : wr.cell? ⟨b, off + k, none⟩ = some (.int .i64 (xs.getD k 0)) := by
        have h0 := hck k hlt
        rw [(fr_rules HI.out.fr).1 b (off + k) (World.block_lt_of_cell? w _ h0)]
        exact h0
      have hxf : fits (xs.getD k 0) := HFIT.out _ (by simp only [List.getD, List.getElem?_eq_getElem hlt, Option.getD_some]; exact List.getElem_mem hlt)
      have hcount : a.c = k := by rw [foldE_stat HI.out.at_, stat_count, List.length_take]; omega
      have HPS := hid (putE_sum a (xs.getD k 0) (by unfold fits; omega))
      have HE : Hid (foldE Ag.zero (xs.take (k + 1)) = putE a (xs.getD k 0)) := by
        show foldE Ag.zero (xs.take (k + 1)) = putE a (xs.getD k 0)
        rw [take_get xs k hlt, foldE_snoc, HI.out.at_]
      have HPO := hid (fun r => putE_ok (r := r) HI.out.fine hxf)
      generalize xs.getD k 0 = x at *
      have HCN := hid hcount
      clear hcount hck
      by_cases hfs : fits (a.s + x)
      · obtain ⟨r, hr, hrs⟩ := HPS.out.1 hfs
        have HR := hid hr
        have HRS := hid hrs
        clear hr hrs
        go_wp2_with fail
        refine (add_ok a.s x hfs _).mono ?_
        rintro e w2 ⟨rfl, rfl⟩
        go_wp2_with fail
        go_roundw
        case rel => exact ⟨k + 1, r, by omega, by go_num, by rw [HRS.out], by first | rfl | trivial, hid ⟨HI.out.fr, by rw [HE.out, HR.out], HPO.out r HR.out⟩⟩
        case measure => simp [intOf]; omega
      · have HERR : Hid (foldE Ag.zero xs = .error (a.s, x)) := by
          have := foldE_front (ys := xs.drop (k + 1)) (HE.out.trans (HPS.out.2 hfs))
          rwa [List.take_append_drop] at this
        have hs := HI.out.fine.2.1
        go_wp2_with fail
        refine (add_over a.s x hs hxf hfs _).mono ?_
        rintro e w2 ⟨rfl, rfl⟩
        unfold overV overB
        go_wp2_with fail
        refine (fold_any _ xs _ (HV.out.fr (HI.out.fr.alloc _))).mono ?_
        rintro e w3 ⟨hf3, hr3⟩
        rw [HERR.out] at hr3
        obtain ⟨o, rfl, ho, hge⟩ := hr3
        have HO := hid ho
        have hol := lt_of_block ho
        have HF3 := hid ((HI.out.fr.alloc _).trans hf3)
        have HC3 : Hid (w3.cell? ⟨b, off + k, none⟩ = some (.int .i64 x)) := by
          have hb := World.block_lt_of_cell? wr _ hxk
          show w3.cell? ⟨b, off + k, none⟩ = _
          rw [(fr_rules ((alloc_fr wr _ (fun _ => False)).trans hf3)).1 b (off + k) hb]
          exact hxk
        have HWO : Hid (w.heap.size ≤ o) := by have := HI.out.fr.size; simp at hge; show w.heap.size ≤ o; omega
        clear ho hge hf3
        unfold overV
        have HAS := hid (as_over o (w3.heap.size + 1) ((w3.alloc (.cells #[.int .i64 0, .int .i64 0, .int .i64 0, .int .i64 0] 29)).alloc (.cells #[.pointer none] 32)) (HG.out.fr ((HF3.out.alloc _).alloc _)) (heap_last _ _ _ (by simp)))
        go_wp2_with fail
        refine HAS.out.mono ?_
        rintro e w4 ⟨rfl, ht4, hf4⟩
        have q0 : w4.cell? ⟨w3.heap.size + 1, 0, none⟩ = some (.pointer (some ⟨o, 0, none⟩)) := by rw [cell_of_row _ _ _ _ _ (0, 0) ht4]; rfl
        have hX : AgAt w4 w3.heap.size Ag.zero := by
          unfold AgAt
          rw [hf4.block w3.heap.size (by simp; omega) (by omega), Below.heap_alloc _ _ _ (by simp)]
          exact heap_last _ _ _ rfl
        have hOb : w4.heap[o]? = some (overB 43 a.s x) := by
          rw [hf4.block o (by simp; omega) (by omega), Below.heap_alloc _ _ _ (by simp; omega), Below.heap_alloc _ _ _ hol]
          exact HO.out
        have hOb' : w4.heap[o]? = some (.cells #[.int .u8 43, .int .i64 a.s, .int .i64 x] 36 (0, 0)) := hOb
        have g0 : w4.cell? ⟨o, 0, none⟩ = some (.int .u8 43) := by rw [cell_of_row _ _ _ _ _ (0, 0) hOb']; rfl
        have g1 : w4.cell? ⟨o, 1, none⟩ = some (.int .i64 a.s) := by rw [cell_of_row _ _ _ _ _ (0, 0) hOb']; rfl
        have g2 : w4.cell? ⟨o, 2, none⟩ = some (.int .i64 x) := by rw [cell_of_row _ _ _ _ _ (0, 0) hOb']; rfl
        have g3 : w4.cell? ⟨b, off + k, none⟩ = some (.int .i64 x) := by
          have hb := World.block_lt_of_cell? w3 _ HC3.out
          have hb' : b < w3.heap.size := hb
          rw [World.cell?_of_block (w := w3) (by
            show w4.heap[b]? = w3.heap[b]?
            rw [hf4.block b (by simp; omega) (by omega), Below.heap_alloc _ _ _ (by simp; omega), Below.heap_alloc _ _ _ hb'])]
          exact HC3.out
        obtain ⟨x0, x1, x2, x3, _⟩ := hX.cells
        have HF4 : Hid (Fr w w4 (fun _ => False)) := by
          have hsz := HF3.out.size
          exact (((HF3.out.alloc _).alloc _)).trans2 hf4 (fun i hi e => by omega)
        clear ht4 hf4 hX hOb hOb' HAS hol
        go_wp2_with fail
        go_quiet (fail)
        go_wp2_with fail
        go_ret
        exact ⟨rfl, HF4.out.drewN _⟩
    · have t1 : ¬ (k : Int) < (xs.length : Int) := by omega
      have e : xs.take k = xs := List.take_of_length_le (by omega)
      have HST : Hid (a = stat xs) := by have := foldE_stat HI.out.at_; rwa [e] at this
      have HAT : Hid (foldE Ag.zero xs = .ok a) := by have := HI.out.at_; rwa [e] at this
      have HW1 := hid HI.out.fr
      clear HC HG
      go_wp2_with fail
      refine (fold_any _ xs _ (HV.out.fr HW1.out)).mono ?_
      rintro e w2 ⟨hf2, hr2⟩
      rw [HAT.out] at hr2
      have hr2 := hr2.symm
      subst hr2
      have HF2 := hid ((HW1.out.trans hf2).alloc (.cells #[.int .i64 a.c, .int .i64 a.s, .int .i64 a.lo, .int .i64 a.hi] 29))
      clear hf2
      go_wp2_with fail
      refine (least_any _ xs _ (HV.out.fr HF2.out)).mono ?_
      rintro e w3 ⟨rfl, rfl⟩
      go_wp2_with fail
      refine (most_any _ xs _ (HV.out.fr HF2.out)).mono ?_
      rintro e w3 ⟨rfl, rfl⟩
      have hcb : (a.c == (xs.length : Int)) = true := by rw [HST.out, stat_count]; simp
      rw [← HST.out]
      go_wp2_with fail
      go_ret
      exact ⟨rfl, HF2.out⟩
end Go.Proofs.YtihaolalbaammaaDoor
