/- The document's Int and Text: walks. -/
import Derived.Test.YtmadlmbpgkifoabRsev
namespace Go.Proofs.Ytmadlmbpgkifoab
open Go.RowKit

theorem own_some {w : World} {base : Nat} {e : TypeId} {xs : List Nat} {ao : Option Addr} {n cap : Nat} (h : w.ownsRow base e 1 (.slice ao n cap) xs.length (by8 xs)) (hx : 1 ≤ xs.length) : ∃ a, ao = some a ∧ ∀ j u, (by8 xs)[j]? = some u → w.cell? (a.add j) = some u := by
  rcases own_bs h with ⟨_, e⟩ | ⟨a, c, e, hc⟩
  · subst e
    simp at hx
  · simp only [Value.slice.injEq] at e
    exact ⟨a, e.1, hc⟩

set_option maxHeartbeats 800000 in
set_option maxRecDepth 100000 in
theorem refint_any (base : Nat) (v : Value) (xs : List Nat) (n : Int) (w : World) (h0 : -9223372036854775808 ≤ n) (h1 : n ≤ 9223372036854775807) (ho : w.ownsRow base 5 1 v xs.length (by8 xs)) (hb : base ≤ w.heap.size) (hl : xs.length + 10 ≤ 140737488355328) :
    Calls Try.prog 46 #[v, .int .i64 n] w fun e w' => MorePost w base v (xs ++ intB n) e w' := by
  obtain ⟨i0, hi, hz0, hz1, hz2⟩ := info_parts Try.info5
  obtain ⟨ao, cap, rfl⟩ := own_nil_shape ho
  have HO := hidR ho
  clear ho
  rcases (show n < 0 ∨ 0 ≤ n by omega) with hn | hn
  · obtain ⟨m, rfl⟩ : ∃ m : Nat, n = -(m : Int) - 1 := ⟨(-(n + 1)).toNat, by omega⟩
    have hz : zig (-(m : Int) - 1) = 2 * m + 1 := by
      unfold zig
      rw [if_neg (by omega)]
      omega
    have hm : m < 9223372036854775808 := by omega
    have hsl := sev_length 9 (2 * m + 1)
    have HN : Hid (intB (-(m : Int) - 1) = sev 9 (2 * m + 1)) := by show intB _ = sev 9 _; rw [intB, hz]
    have HS := hidR (fun W => sevens_any (2 * m + 1) W (by omega))
    clear hz h0 h1
    go_enter Try.func46, Try.ntmps46
    go_wp2_with fail
    rw [show ((m : Int) * 2 + 1) = ((2 * m + 1 : Nat) : Int) from by omega]
    refine (HS.out _).mono ?_
    rintro e w1 ⟨v1, rfl, ho1, hf1⟩
    have ho2 := own_fr HO.out hf1 (fun _ _ h => h)
    generalize 2 * m + 1 = u at *
    obtain ⟨ao1, cap1, rfl⟩ := own_nil_shape ho1
    obtain ⟨a, rfl, hcells⟩ := own_some ho1 hsl.2
    have hs1 := hf1.size
    have HF1 := hidR hf1
    clear hf1 ho1
    go_wp2_with (at_builtin; go_must (refine wpList_append_own_at _ rfl (.tmp 7) (.tmp 14) 24 rfl base 5 i0 (.int .u8 0) 1 1 Try.underlying24 hi hz0 hz1 hz2 rfl (by decide) _ _ _ rfl ho2 a (sev 9 u).length cap1 (by8 (sev 9 u)) rfl (by rw [by8_length, Nat.mul_one]) hcells (by8_one _) (by unfold maxLen; omega) (by omega) (by omega) ?_))
    intro v2 w2 hown hgrow _ hat
    have HP : Hid (MorePost w base (.slice ao xs.length cap) (xs ++ sev 9 u) (.returned v2) w2) := by
      refine ⟨v2, rfl, ?_, (HF1.out.mono (fun _ _ h => h.elim)).grown hgrow (fun k _ e => e), Nw.of hat hs1⟩
      rw [List.length_append, by8_append]
      exact hown
    obtain ⟨ao2, cap2, rfl⟩ := own_nil_shape hown
    clear hown hgrow hat ho2 hcells
    go_wp2
    go_ret
    rw [HN.out]
    exact HP.out
  · obtain ⟨m, rfl⟩ := Int.eq_ofNat_of_zero_le hn
    have hz : zig (m : Int) = 2 * m := by
      unfold zig
      rw [if_pos (by omega)]
      omega
    have hm : m < 9223372036854775808 := by omega
    have hsl := sev_length 9 (2 * m)
    have HN : Hid (intB (m : Int) = sev 9 (2 * m)) := by show intB _ = sev 9 _; rw [intB, hz]
    have HS := hidR (fun W => sevens_any (2 * m) W (by omega))
    clear hz h0 h1 hn
    go_enter Try.func46, Try.ntmps46
    go_wp2_with fail
    rw [show ((m : Int) * 2) = ((2 * m : Nat) : Int) from by omega]
    refine (HS.out _).mono ?_
    rintro e w1 ⟨v1, rfl, ho1, hf1⟩
    have ho2 := own_fr HO.out hf1 (fun _ _ h => h)
    generalize 2 * m = u at *
    obtain ⟨ao1, cap1, rfl⟩ := own_nil_shape ho1
    obtain ⟨a, rfl, hcells⟩ := own_some ho1 hsl.2
    have hs1 := hf1.size
    have HF1 := hidR hf1
    clear hf1 ho1
    go_wp2_with (at_builtin; go_must (refine wpList_append_own_at _ rfl (.tmp 16) (.tmp 20) 24 rfl base 5 i0 (.int .u8 0) 1 1 Try.underlying24 hi hz0 hz1 hz2 rfl (by decide) _ _ _ rfl ho2 a (sev 9 u).length cap1 (by8 (sev 9 u)) rfl (by rw [by8_length, Nat.mul_one]) hcells (by8_one _) (by unfold maxLen; omega) (by omega) (by omega) ?_))
    intro v2 w2 hown hgrow _ hat
    have HP : Hid (MorePost w base (.slice ao xs.length cap) (xs ++ sev 9 u) (.returned v2) w2) := by
      refine ⟨v2, rfl, ?_, (HF1.out.mono (fun _ _ h => h.elim)).grown hgrow (fun k _ e => e), Nw.of hat hs1⟩
      rw [List.length_append, by8_append]
      exact hown
    obtain ⟨ao2, cap2, rfl⟩ := own_nil_shape hown
    clear hown hgrow hat ho2 hcells
    go_wp2
    go_ret
    rw [HN.out]
    exact HP.out

set_option maxHeartbeats 800000 in
set_option maxRecDepth 100000 in
theorem reftext_any (base : Nat) (v : Value) (xs : List Nat) (s : ByteArray) (w : World) (ho : w.ownsRow base 5 1 v xs.length (by8 xs)) (hb : base ≤ w.heap.size) (hl : xs.length + s.size + 10 ≤ 140737488355328) :
    Calls Try.prog 47 #[v, .string s] w fun e w' => MorePost w base v (xs ++ numB s.size ++ nums8 s) e w' := by
  obtain ⟨i0, hi, hz0, hz1, hz2⟩ := info_parts Try.info5
  have hnl := numB_length s.size
  obtain ⟨ao, cap, rfl⟩ := own_nil_shape ho
  have HO := hidR ho
  clear ho
  go_enter Try.func47, Try.ntmps47
  go_wp2_with fail
  refine (refnum_any base _ xs (s.size : Int) w (by omega) (by omega) HO.out hb (by omega)).mono ?_
  rintro e w1 ⟨v1, rfl, ho1, hf1, hn1⟩
  have hly : (xs ++ numB s.size).length ≤ xs.length + 10 := by rw [List.length_append]; omega
  have hs1 := hf1.size
  have HF1 := hidR hf1
  have HN1 := hidR hn1
  generalize hys : xs ++ numB s.size = ys at *
  have HY := hidR hys
  clear hys
  obtain ⟨ao1, cap1, rfl⟩ := own_nil_shape ho1
  clear hf1 hn1
  go_wp2_with (at_builtin; go_must (refine wpList_append_str_at _ rfl (.tmp 9) (.tmp 10) 24 9 rfl base 5 i0 Try.underlying24 Try.underlying9 hi hz0 hz1 hz2 _ _ _ rfl ho1 s rfl (by omega) (by omega) ?_))
  intro v2 w2 hown hgrow hat
  have HP : Hid (MorePost w base (.slice ao xs.length cap) (ys ++ nums8 s) (.returned v2) w2) := by
    refine ⟨v2, rfl, ?_, ?_, ?_⟩
    · rw [List.length_append, by8_append, nums8_length, ← nums8_cells]
      exact hown
    · exact HF1.out.grown hgrow (fun k hk e => HN1.out.lt e hk)
    · exact HN1.out.trans (Nw.of hat (Nat.le_refl _)) hs1
  obtain ⟨ao2, cap2, rfl⟩ := own_nil_shape hown
  clear hown hgrow hat ho1
  go_wp2
  go_ret
  rw [HY.out]
  exact HP.out
end Go.Proofs.Ytmadlmbpgkifoab
