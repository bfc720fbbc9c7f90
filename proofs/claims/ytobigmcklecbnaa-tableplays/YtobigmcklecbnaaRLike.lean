/- spatelaw6: sizes, like: walks. -/
import Derived.Test.YtobigmcklecbnaaRDrop
import Derived.Test.YtobigmcklecbnaaTTab6
namespace Go.Proofs.Ytobigmcklecbnaa
open Go.RowKit

theorem leftq_any {B gr : Nat} {ge : Option Nat} {T : Tb} (w : World) (h : TbAt w B gr ge T) :
    Calls Try.prog 34 #[.pointer (some ⟨B, 0, none⟩)] w fun e w' => e = .returned (.int .i64 (T.left : Int)) ∧ ∃ m, w' = w.drewN m := by
  have hlt := h.lt
  have hmv := h.inv.mv
  have hel := h.elen
  have HL := hid (show (T.elder.length : Int) - (T.moved : Int) = (T.left : Int) by unfold Tb.left; omega)
  obtain ⟨rv, ev, hc, hr, he⟩ := h.ex
  obtain ⟨c0, c1, c2, c3⟩ := cells4 hc
  obtain ⟨ao, cap, rfl⟩ := he.shape
  clear h hc hr he
  go_enter Try.func34, Try.ntmps34
  go_wp2_with fail
  go_quiet (fail)
  go_wp2_with fail
  go_ret
  exact ⟨congrArg (fun x => Ending.returned (.int .i64 x)) HL.out, nq, rfl⟩
theorem rleftq_any {B gr : Nat} {ge : Option Nat} {T : Tb} (w : World) (h : RfAt w B gr ge T) :
    Calls Try.prog 71 #[.pointer (some ⟨B, 0, none⟩)] w fun e w' => e = .returned (.int .i64 (T.left : Int)) ∧ ∃ m, w' = w.drewN m := by
  have hlt := h.lt
  have hmv := h.inv.mv
  have hel := h.elen
  have HL := hid (show (T.elder.length : Int) - (T.moved : Int) = (T.left : Int) by unfold Tb.left; omega)
  obtain ⟨rv, ev, hc, hr, he⟩ := h.ex
  obtain ⟨c0, c1, c2, c3⟩ := cells4 hc
  obtain ⟨ao, cap, rfl⟩ := he.shape
  clear h hc hr he
  go_enter Try.func71, Try.ntmps71
  go_wp2_with fail
  go_quiet (fail)
  go_wp2_with fail
  go_ret
  exact ⟨congrArg (fun x => Ending.returned (.int .i64 x)) HL.out, nq, rfl⟩

set_option maxHeartbeats 1000000 in
set_option maxRecDepth 100000 in
theorem sizes_any {B gr C hr' : Nat} {ge he' : Option Nat} {T : Tb} (w : World) (h : TbAt w B gr ge T) (k : RfAt w C hr' he' T) :
    Calls Try.prog 47 #[.pointer (some ⟨B, 0, none⟩), .pointer (some ⟨C, 0, none⟩)] w fun e w' => e = .returned (.bool true) ∧ ∃ m, w' = w.drewN m := by
  have hlt := h.lt
  have klt := k.lt
  have HT := hid h
  have HR := hid k
  have HL1 := hid (fun (m : Nat) => len_any (w.drewN m) (show TbAt (w.drewN m) B gr ge T from HT.out.step ((Fr.refl _ _).drewN m)))
  have HL2 := hid (fun (m : Nat) => slots_any (w.drewN m) (show TbAt (w.drewN m) B gr ge T from HT.out.step ((Fr.refl _ _).drewN m)))
  have HL3 := hid (fun (m : Nat) => leftq_any (w.drewN m) (show TbAt (w.drewN m) B gr ge T from HT.out.step ((Fr.refl _ _).drewN m)))
  have HL4 := hid (fun (m : Nat) => rleftq_any (w.drewN m) (show RfAt (w.drewN m) C hr' he' T from HR.out.step ((Fr.refl _ _).drewN m)))
  obtain ⟨rv, ev, hc, hr, he⟩ := k.ex
  obtain ⟨c0, c1, c2, c3⟩ := cells4 hc
  obtain ⟨ao, cap, rfl⟩ := hr.shape
  clear h k hc hr he c1 c2
  go_enter Try.func47, Try.ntmps47
  go_wp2_with fail
  go_quiet ((first
    | (go_at_call 36; exact Calls.quiet_of_same (HL1.out _))
    | (go_at_call 32; exact Calls.quiet_of_same (HL2.out _))
    | (go_at_call 34; exact Calls.quiet_of (HL3.out _))
    | (go_at_call 71; exact Calls.quiet_of (HL4.out _))))
  go_wp2_with fail
  go_ret
  exact ⟨by simp, nq, rfl⟩

set_option maxHeartbeats 1000000 in
set_option maxRecDepth 100000 in
theorem like_any {B gr C hr' : Nat} {ge he' : Option Nat} {T : Tb} (key : ByteArray) (w : World) (h : TbAt w B gr ge T) (k : RfAt w C hr' he' T) (hk : key.size ≤ 9223372036854775807) :
    Calls Try.prog 21 #[.pointer (some ⟨B, 0, none⟩), .pointer (some ⟨C, 0, none⟩), .string key] w fun e w' => e = .returned (.bool true) ∧ w' = w := by
  have H1 := hid (get_any key w h hk)
  have H2 := hid (rget_any key w k hk)
  have H3 := hid (place_any key w h hk)
  have H4 := hid (rplace_any key w k hk)
  have HI : ∃ x : Int, (getT (.int .i64 0) T key).1 = .int .i64 x := by
    unfold getT
    rcases place_cases h.inv key with ⟨i, hf, hp⟩ | ⟨i, hf, hp⟩ | ⟨hn, hp⟩
    · rw [hp]
      obtain ⟨⟨x, hx⟩, _⟩ := h.rok i hf.1
      exact ⟨x, by simp [hx]⟩
    · rw [hp]
      obtain ⟨⟨x, hx⟩, _⟩ := h.eok i hf.1
      exact ⟨x, by simp [hx]⟩
    · rw [hp]
      exact ⟨0, by simp⟩
  obtain ⟨x, hx⟩ := HI
  rw [hx] at H1 H2
  clear h k hx
  generalize (getT (.int .i64 0) T key).2 = is at *
  generalize (placeT T key).1 = a at *
  generalize (placeT T key).2.1 = el at *
  generalize (placeT T key).2.2 = th at *
  go_enter Try.func21, Try.ntmps21
  go_wp2_with fail
  refine H1.out.mono ?_
  rintro e w1 ⟨rfl, hw1⟩
  have hw1 := hw1.symm
  subst hw1
  go_wp2_with fail
  refine H2.out.mono ?_
  rintro e w1 ⟨rfl, hw1⟩
  have hw1 := hw1.symm
  subst hw1
  go_wp2_with fail
  refine H3.out.mono ?_
  rintro e w1 ⟨rfl, hw1⟩
  have hw1 := hw1.symm
  subst hw1
  go_wp2_with fail
  refine H4.out.mono ?_
  rintro e w1 ⟨rfl, hw1⟩
  have hw1 := hw1.symm
  subst hw1
  go_wp2_with fail
  all_goals
    go_ret
    exact ⟨by simp, rfl⟩
end Go.Proofs.Ytobigmcklecbnaa
