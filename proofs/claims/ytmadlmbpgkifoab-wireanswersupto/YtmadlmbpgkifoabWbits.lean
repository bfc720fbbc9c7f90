/- The Writer's calls, each by what it lays: walks. -/
import Derived.Test.YtmadlmbpgkifoabRows
import Derived.Deep.DeepMust
import Derived.Test.YtmadlmbpgkifoabMem
import Derived.Test.YtmadlmbpgkifoabPure
namespace Go.Proofs.Ytmadlmbpgkifoab
open Go.RowKit

theorem Try.info5 : (Try.prog.info? 5).map (fun i => (i.zero, i.size, i.bytes)) = some (some (.int .u8 0), 1, 1) := by kernel_rfl

set_option maxHeartbeats 800000 in
set_option maxRecDepth 100000 in
theorem bits_any (base B : Nat) (v : Value) (xs : List Nat) (u : Nat) (w : World) (hu : u < 2 * 128 ^ 9) (hB : Wr 26 5 w base B v xs) (hb : base ≤ w.heap.size) (hl : xs.length + 10 ≤ 140737488355328) :
    Calls Try.prog 33 #[.pointer (some ⟨B, 0, none⟩), .int .u64 (u : Int)] w fun e w' => e = .returned (.tuple #[]) ∧ ∃ v', Wr 26 5 w' base B v' (xs ++ sev 9 u) ∧ Fr w w' (fun k => k = B ∨ v.ownBlock = some k) ∧ Nw w v v' := by
  obtain ⟨i0, hi, hz0, hz1, hz2⟩ := info_parts Try.info5
  go_enter Try.func33, Try.ntmps33
  go_wp2_with fail
  go_loopw [1] (fun t wr => ∃ (f u' : Nat) (v' : Value) (pre : List Nat), t = .int .u64 (u' : Int) ∧ Hid (pre ++ sev f u' = sev 9 u) ∧ pre.length + f = 9 ∧ u' < 2 * 128 ^ f ∧ Wr 26 5 wr base B v' (xs ++ pre) ∧ Fr w wr (fun k => k = B ∨ v.ownBlock = some k) ∧ Nw w v v') (fun t _ => (intOf t).toNat)
  case atStart => exact ⟨9, u, v, [], rfl, rfl, rfl, hu, by simpa using hB, Fr.refl _ _, Nw.refl _ _⟩
  case round =>
    obtain ⟨f, u', v', pre, rfl, hp, hpf, hu', hw', hfr, hnw⟩ := hrel
    obtain ⟨ao, cap, rfl⟩ := own_nil_shape hw'.own
    have hc := cell_of_one hw'.cell
    have hf := free_of_one hw'.cell
    have hsz := lt_of_block hw'.cell
    have hsz2 := hfr.size
    have ho := hw'.own
    have hly : (xs ++ pre).length ≤ xs.length + 9 := by rw [List.length_append]; omega
    by_cases h128 : 128 ≤ u'
    · obtain ⟨f, rfl⟩ : ∃ g, f = g + 1 := by
        cases f with
        | zero => simp at hu'; omega
        | succ g => exact ⟨g, rfl⟩
      have Hp : Hid ((pre ++ [u' % 128 + 128]) ++ sev f (u' / 128) = sev 9 u) := by
        have := hp.out
        rw [sev_more f u' h128] at this
        simpa [Hid] using this
      have Hu : Hid (u' / 128 < 2 * 128 ^ f) := by
        have h : 128 ^ (f + 1) = 128 ^ f * 128 := Nat.pow_succ ..
        show u' / 128 < 2 * 128 ^ f
        rw [h] at hu'
        omega
      have h128' : (128 : Int) ≤ (u' : Int) := by omega
      have hob := or_byte u'
      have Hob : Hid (Go.bits .or .u8 ((u' : Int) % 256) 128 = ((u' % 128 + 128 : Nat) : Int)) := hob
      clear hob hp hu'
      have Hfr : Hid (Fr w wr (fun k => k = B ∨ v.ownBlock = some k)) := hfr
      have Hnw : Hid (Nw w v (.slice ao (xs ++ pre).length cap)) := hnw
      clear hfr hnw
      generalize hys : xs ++ pre = ys at *
      have Hys : Hid (xs ++ pre = ys) := hys
      clear hys
      go_wp2_with (at_builtin; go_must (refine wpList_append_own_at _ rfl (.tmp 10) (.tmp 14) 24 rfl base 5 i0 (.int .u8 0) 1 1 Try.underlying24 hi hz0 hz1 hz2 rfl (by decide) _ _ _ rfl (ho.alloc _) ⟨wr.heap.size, 0, none⟩ 1 1 [.int .u8 (Go.bits .or .u8 ((u' : Int) % 256) 128)] rfl rfl (cells_new _ _ _) ?c2 ?c3 ?c4 ?c5 ?_))
      case c2 => intro x hx; simp at hx; subst hx; rfl
      case c3 => unfold maxLen; omega
      case c4 => omega
      case c5 => simp; omega
      intro v' w1 hown hgrow _ hat
      have S := wr_step (cs := [u' % 128 + 128]) (by decide) Hfr.out Hnw.out hw' (alloc_fr wr _ _) rfl (by rw [Hob.out] at hown; exact hown) hgrow hat (by simp)
      obtain ⟨ao', cap', rfl⟩ := own_nil_shape hown
      have hc1 := cell_of_one S.2.2.2
      have hf1 := free_of_one S.2.2.2
      have HS : Hid (Wr 26 5 (w1.setCell ⟨B, 0, none⟩ (.slice ao' (ys.length + 1) cap')) base B (.slice ao' (ys.length + 1) cap') (ys ++ [u' % 128 + 128]) ∧ Fr w (w1.setCell ⟨B, 0, none⟩ (.slice ao' (ys.length + 1) cap')) (fun k => k = B ∨ v.ownBlock = some k) ∧ Nw w v (.slice ao' (ys.length + 1) cap')) := ⟨S.1, S.2.1, S.2.2.1⟩
      clear S hown hgrow hat ho hw' hc hf
      go_wp2
      go_roundw
      case rel => exact ⟨f, u' / 128, _, pre ++ [u' % 128 + 128], by go_num, Hp, by simp; omega, Hu, by rw [← List.append_assoc, Hys.out]; exact HS.out.1, HS.out.2.1, HS.out.2.2⟩
      case measure => simp [intOf]; omega
    · have Hp : Hid (pre ++ [u'] = sev 9 u) := by
        have := hp.out
        rw [sev_last f u' (by omega)] at this
        exact this
      have h128' : (u' : Int) < 128 := by omega
      clear hp hu' h128
      have Hfr : Hid (Fr w wr (fun k => k = B ∨ v.ownBlock = some k)) := hfr
      have Hnw : Hid (Nw w v (.slice ao (xs ++ pre).length cap)) := hnw
      clear hfr hnw
      generalize hys : xs ++ pre = ys at *
      have Hys : Hid (xs ++ pre = ys) := hys
      clear hys
      go_wp2_with (at_builtin; go_must (refine wpList_append_own_at _ rfl (.tmp 24) (.tmp 27) 24 rfl base 5 i0 (.int .u8 0) 1 1 Try.underlying24 hi hz0 hz1 hz2 rfl (by decide) _ _ _ rfl (ho.alloc _) ⟨wr.heap.size, 0, none⟩ 1 1 [.int .u8 (u' : Int)] rfl rfl (cells_new _ _ _) ?d2 ?d3 ?d4 ?d5 ?_))
      case d2 => intro x hx; simp at hx; subst hx; rfl
      case d3 => unfold maxLen; omega
      case d4 => omega
      case d5 => simp; omega
      intro v' w1 hown hgrow _ hat
      have S := wr_step (cs := [u']) (by decide) Hfr.out Hnw.out hw' (alloc_fr wr _ _) rfl hown hgrow hat (by simp)
      obtain ⟨ao', cap', rfl⟩ := own_nil_shape hown
      have hc1 := cell_of_one S.2.2.2
      have hf1 := free_of_one S.2.2.2
      have HS : Hid (Wr 26 5 (w1.setCell ⟨B, 0, none⟩ (.slice ao' (ys.length + 1) cap')) base B (.slice ao' (ys.length + 1) cap') (ys ++ [u']) ∧ Fr w (w1.setCell ⟨B, 0, none⟩ (.slice ao' (ys.length + 1) cap')) (fun k => k = B ∨ v.ownBlock = some k) ∧ Nw w v (.slice ao' (ys.length + 1) cap')) := ⟨S.1, S.2.1, S.2.2.1⟩
      clear S hown hgrow hat ho hw' hc hf
      go_wp2
      go_end0
      exact ⟨rfl, _, by rw [← Hp.out, ← List.append_assoc, Hys.out]; exact HS.out.1, HS.out.2.1, HS.out.2.2⟩
end Go.Proofs.Ytmadlmbpgkifoab
