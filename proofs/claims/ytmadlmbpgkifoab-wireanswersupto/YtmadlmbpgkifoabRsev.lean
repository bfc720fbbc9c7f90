/- The document's Sevens, Num, Int, Text: walks. -/
import Derived.Test.YtmadlmbpgkifoabWmore
namespace Go.Proofs.Ytmadlmbpgkifoab
open Go.RowKit

theorem hidR {p : Prop} (h : p) : Hid p := h

set_option maxHeartbeats 800000 in
set_option maxRecDepth 100000 in
theorem sevens_any (u : Nat) (w : World) (hu : u < 2 * 128 ^ 9) :
    Calls Try.prog 49 #[.int .u64 (u : Int)] w fun e w' => FreshPost w (sev 9 u) e w' := by
  obtain ⟨i0, hi, hz0, hz1, hz2⟩ := info_parts Try.info5
  go_enter Try.func49, Try.ntmps49
  go_wp2_with fail
  go_loopw [0, 3] (fun t o wr => ∃ (f u' : Nat) (pre : List Nat), t = .int .u64 (u' : Int) ∧ Hid (pre ++ sev f u' = sev 9 u) ∧ pre.length + f = 9 ∧ u' < 2 * 128 ^ f ∧ Hid (wr.ownsRow w.heap.size 5 1 o pre.length (by8 pre)) ∧ Hid (Fr w wr (fun _ => False))) (fun t _ _ => (intOf t).toNat)
  case atStart => exact ⟨9, u, [], rfl, rfl, rfl, hu, World.ownsRow_nil _ _ _ _, Fr.refl _ _⟩
  case round =>
    obtain ⟨f, u', pre, rfl, hp, hpf, hu', HO, HF⟩ := hrel
    obtain ⟨ao, cap, rfl⟩ := own_nil_shape HO.out
    have ho := HO.out
    have hsz := HF.out.size
    have h64 : u' < 18446744073709551616 := Nat.lt_of_lt_of_le hu' (Nat.le_trans (Nat.mul_le_mul_left 2 (Nat.pow_le_pow_right (by decide) (show f ≤ 9 by omega))) (by decide))
    have h64' : (u' : Int) ≤ 18446744073709551615 := by omega
    clear h64
    by_cases h128 : 128 ≤ u'
    · obtain ⟨f, rfl⟩ : ∃ g, f = g + 1 := by
        cases f with
        | zero => simp at hu'; omega
        | succ g => exact ⟨g, rfl⟩
      have Hp : Hid ((pre ++ [u' % 128 + 128]) ++ sev f (u' / 128) = sev 9 u) := by
        have := hp.out
        rw [sev_more f u' h128] at this
        simpa [Hid] using this
      have Hu : Hid (u' / 128 < 2 * 128 ^ f) := by
        have h : 128 ^ (f + 1) = 128 ^ f * 128 := Nat.pow_succ ..
        show u' / 128 < 2 * 128 ^ f
        rw [h] at hu'
        omega
      have h128' : (128 : Int) ≤ (u' : Int) := by omega
      clear hp hu'
      go_wp2_with (at_builtin; go_must (refine wpList_append_own_at _ rfl (.tmp 6) (.tmp 11) 24 rfl w.heap.size 5 i0 (.int .u8 0) 1 1 Try.underlying24 hi hz0 hz1 hz2 rfl (by decide) _ _ _ rfl (ho.alloc _) ⟨wr.heap.size, 0, none⟩ 1 1 [.int .u8 ((u' : Int) % 128 + 128)] rfl rfl (cells_new _ _ _) (fun x hx => by simp at hx; subst hx; rfl) (by unfold maxLen; omega) (by omega) (by simp; omega) ?_))
      intro v' w1 hown hgrow _ _
      have HO1 : Hid (w1.ownsRow w.heap.size 5 1 v' (pre ++ [u' % 128 + 128]).length (by8 (pre ++ [u' % 128 + 128]))) := by
        show w1.ownsRow w.heap.size 5 1 v' (pre ++ [u' % 128 + 128]).length (by8 (pre ++ [u' % 128 + 128]))
        rw [List.length_append, by8_append]
        exact hown
      have HF1 := hidR ((HF.out.alloc _).grown hgrow (fun k hk e => by have := (ho.lt k e).1; omega))
      obtain ⟨ao', cap', rfl⟩ := own_nil_shape hown
      clear hown hgrow ho
      go_wp2
      exact ⟨⟨f, u' / 128, pre ++ [u' % 128 + 128], by go_num, Hp, by simp; omega, Hu, HO1, HF1⟩, by simp [intOf]; omega⟩
    · have Hp : Hid (pre ++ [u'] = sev 9 u) := by
        have := hp.out
        rw [sev_last f u' (by omega)] at this
        exact this
      have h128' : (u' : Int) < 128 := by omega
      clear hp hu' h128
      go_wp2_with (at_builtin; go_must (refine wpList_append_own_at _ rfl (.tmp 15) (.tmp 18) 24 rfl w.heap.size 5 i0 (.int .u8 0) 1 1 Try.underlying24 hi hz0 hz1 hz2 rfl (by decide) _ _ _ rfl (ho.alloc _) ⟨wr.heap.size, 0, none⟩ 1 1 [.int .u8 (u' : Int)] rfl rfl (cells_new _ _ _) (fun x hx => by simp at hx; subst hx; rfl) (by unfold maxLen; omega) (by omega) (by simp; omega) ?_))
      intro v' w1 hown hgrow _ _
      have HP : Hid (FreshPost w (sev 9 u) (.returned v') w1) := by
        refine ⟨v', rfl, ?_, (HF.out.alloc _).grown hgrow (fun k hk e => by have := (ho.lt k e).1; omega)⟩
        rw [← Hp.out, List.length_append, by8_append]
        exact hown
      obtain ⟨ao', cap', rfl⟩ := own_nil_shape hown
      clear hown hgrow ho
      go_wp2
      go_ret
      exact HP.out

/-- What comes behind bytes that are owned: in the same row, or in a new one. -/
def MorePost (w : World) (base : Nat) (v : Value) (ys : List Nat) (e : Ending) (w' : World) : Prop :=
  ∃ v', e = .returned v' ∧ w'.ownsRow base 5 1 v' ys.length (by8 ys) ∧ Fr w w' (fun k => v.ownBlock = some k) ∧ Nw w v v'

set_option maxHeartbeats 800000 in
set_option maxRecDepth 100000 in
theorem refnum_any (base : Nat) (v : Value) (xs : List Nat) (n : Int) (w : World) (h0 : -9223372036854775808 ≤ n) (h1 : n ≤ 9223372036854775807) (ho : w.ownsRow base 5 1 v xs.length (by8 xs)) (hb : base ≤ w.heap.size) (hl : xs.length + 10 ≤ 140737488355328) :
    Calls Try.prog 45 #[v, .int .i64 n] w fun e w' => MorePost w base v (xs ++ numB n) e w' := by
  obtain ⟨i0, hi, hz0, hz1, hz2⟩ := info_parts Try.info5
  obtain ⟨ao, cap, rfl⟩ := own_nil_shape ho
  have HO := hidR ho
  obtain ⟨m, hm, hmn⟩ : ∃ m : Nat, n.toNat = m ∧ m ≤ 9223372036854775807 := ⟨_, rfl, by omega⟩
  have hsl := sev_length 9 m
  have HN : Hid (numB n = sev 9 m) := by show numB n = sev 9 m; rw [numB, hm]
  have HS := hidR (fun W => sevens_any m W (by omega))
  clear ho
  rcases (show n < 0 ∨ 0 ≤ n by omega) with hn | hn
  · obtain rfl : m = 0 := by omega
    clear hm
    go_enter Try.func45, Try.ntmps45
    go_wp2_with fail
    refine (HS.out _).mono ?_
    rintro e w1 ⟨v1, rfl, ho1, hf1⟩
    have ho2 := own_fr HO.out hf1 (fun _ _ h => h)
    obtain ⟨a1, hv1, hc1⟩ : ∃ ao1 cap1, v1 = .slice ao1 (sev 9 0).length cap1 := own_nil_shape ho1
    subst hc1
    obtain ⟨a, rfl, hcells⟩ : ∃ a, a1 = some a ∧ ∀ j u, (by8 (sev 9 0))[j]? = some u → w1.cell? (a.add j) = some u := by
      rcases own_bs ho1 with ⟨_, e⟩ | ⟨a, c, e, hc⟩
      · simp [sev] at e
      · simp only [Value.slice.injEq] at e
        exact ⟨a, e.1, hc⟩
    have hs1 := hf1.size
    have HF1 := hidR hf1
    clear hf1 ho1
    go_wp2_with (at_builtin; go_must (refine wpList_append_own_at _ rfl (.tmp 7) (.tmp 10) 24 rfl base 5 i0 (.int .u8 0) 1 1 Try.underlying24 hi hz0 hz1 hz2 rfl (by decide) _ _ _ rfl ho2 a (sev 9 0).length hv1 (by8 (sev 9 0)) rfl (by rw [by8_length, Nat.mul_one]) hcells (by8_one _) (by unfold maxLen; omega) (by omega) (by omega) ?_))
    intro v2 w2 hown hgrow _ hat
    have HP : Hid (MorePost w base (.slice ao xs.length cap) (xs ++ numB n) (.returned v2) w2) := by
      refine ⟨v2, rfl, ?_, (HF1.out.mono (fun _ _ h => h.elim)).grown hgrow (fun k _ e => e), Nw.of hat hs1⟩
      rw [HN.out, List.length_append, by8_append]
      exact hown
    obtain ⟨ao2, cap2, rfl⟩ := own_nil_shape hown
    clear hown hgrow hat ho2 hcells
    go_wp2
    go_ret
    exact HP.out
  · obtain ⟨m', rfl⟩ := Int.eq_ofNat_of_zero_le hn
    obtain rfl : m' = m := by omega
    clear hm
    obtain ⟨m, hmm⟩ : ∃ m, m = m' := ⟨_, rfl⟩
    subst hmm
    go_enter Try.func45, Try.ntmps45
    go_wp2_with fail
    refine (HS.out _).mono ?_
    rintro e w1 ⟨v1, rfl, ho1, hf1⟩
    have ho2 := own_fr HO.out hf1 (fun _ _ h => h)
    obtain ⟨a1, hv1, hc1⟩ : ∃ ao1 cap1, v1 = .slice ao1 (sev 9 m).length cap1 := own_nil_shape ho1
    subst hc1
    obtain ⟨a, rfl, hcells⟩ : ∃ a, a1 = some a ∧ ∀ j u, (by8 (sev 9 m))[j]? = some u → w1.cell? (a.add j) = some u := by
      rcases own_bs ho1 with ⟨_, e⟩ | ⟨a, c, e, hc⟩
      · have hl0 := hsl.2
        rw [e] at hl0
        simp at hl0
      · simp only [Value.slice.injEq] at e
        exact ⟨a, e.1, hc⟩
    have hs1 := hf1.size
    have HF1 := hidR hf1
    clear hf1 ho1
    go_wp2_with (at_builtin; go_must (refine wpList_append_own_at _ rfl (.tmp 7) (.tmp 10) 24 rfl base 5 i0 (.int .u8 0) 1 1 Try.underlying24 hi hz0 hz1 hz2 rfl (by decide) _ _ _ rfl ho2 a (sev 9 m).length hv1 (by8 (sev 9 m)) rfl (by rw [by8_length, Nat.mul_one]) hcells (by8_one _) (by unfold maxLen; omega) (by omega) (by omega) ?_))
    intro v2 w2 hown hgrow _ hat
    have HP : Hid (MorePost w base (.slice ao xs.length cap) (xs ++ numB (m : Int)) (.returned v2) w2) := by
      refine ⟨v2, rfl, ?_, (HF1.out.mono (fun _ _ h => h.elim)).grown hgrow (fun k _ e => e), Nw.of hat hs1⟩
      rw [HN.out, List.length_append, by8_append]
      exact hown
    obtain ⟨ao2, cap2, rfl⟩ := own_nil_shape hown
    clear hown hgrow hat ho2 hcells
    go_wp2
    go_ret
    exact HP.out
end Go.Proofs.Ytmadlmbpgkifoab
