/- The document's table: Left, Place, Get: walks. -/
import Derived.Test.YtobigmcklecbnaaRRow
namespace Go.Proofs.Ytobigmcklecbnaa
open Go.RowKit

theorem rleft_any {B gr : Nat} {ge : Option Nat} {T : Tb} (w : World) (h : RfAt w B gr ge T) :
    Calls Try.prog 71 #[.pointer (some ⟨B, 0, none⟩)] w fun e w' => e = .returned (.int .i64 (T.left : Int)) ∧ Fr w w' (fun _ => False) := by
  have hlt := h.lt
  have hmv := h.inv.mv
  have hel := h.elen
  have HL := hid (show (T.elder.length : Int) - (T.moved : Int) = (T.left : Int) by unfold Tb.left; omega)
  obtain ⟨rv, ev, hc, hr, he⟩ := h.ex
  obtain ⟨c0, c1, c2, c3⟩ := cells4 hc
  obtain ⟨ao, cap, rfl⟩ := he.shape
  clear h hc hr he
  go_enter Try.func71, Try.ntmps71
  go_wp2_with fail
  go_quiet (fail)
  go_wp2_with fail
  go_ret
  exact ⟨congrArg (fun x => Ending.returned (.int .i64 x)) HL.out, by repeat (first | exact Fr.refl _ _ | apply Fr.drewN | apply Fr.drew)⟩

set_option maxHeartbeats 1000000 in
theorem rplace_any {B gr : Nat} {ge : Option Nat} {T : Tb} (k : ByteArray) (w : World) (h : RfAt w B gr ge T) (hk : k.size ≤ 9223372036854775807) :
    Calls Try.prog 50 #[.pointer (some ⟨B, 0, none⟩), .string k] w fun e w' => e = .returned (.tuple #[.int .i64 ((placeT T k).1 : Int), .bool (placeT T k).2.1, .bool (placeT T k).2.2]) ∧ w' = w := by
  have hlt := h.lt
  obtain ⟨rv, ev, hc, hr, he⟩ := h.ex
  obtain ⟨c0, c1, c2, c3⟩ := cells4 hc
  have hrn : T.row ≠ [] := by obtain ⟨cap, rest, _, _, hne⟩ := hr; exact hne
  have HR := hid (rfindR_any k w hr hrn (fun _ => h.inv.row_emp) hk h.len)
  cases hb1 : (lookL T.row k).2 with
  | true =>
    have HP : Hid (placeT T k = ((lookL T.row k).1, false, true)) := by
      unfold Hid placeT
      rw [if_pos hb1]
    rw [hb1] at HR
    rw [HP.out]
    clear h hc hr he hb1
    go_enter Try.func50, Try.ntmps50
    go_wp2_with fail
    refine HR.out.mono ?_
    rintro e w1 ⟨rfl, hw1⟩
    have hw1 := hw1.symm
    subst hw1
    go_wp2_with fail
    go_ret3
    exact ⟨rfl, rfl⟩
  | false =>
    rw [hb1] at HR
    by_cases hen : T.elder = []
    · have HP : Hid (placeT T k = (0, false, false)) := by
        unfold Hid placeT
        rw [if_neg (by rw [hb1]; simp), hen, if_neg (by simp [lookL])]
      rw [HP.out]
      obtain ⟨ao, cap, rfl⟩ := he.shape
      rw [hen] at c1
      clear h hc hr he hb1
      go_enter Try.func50, Try.ntmps50
      go_wp2_with fail
      refine HR.out.mono ?_
      rintro e w1 ⟨rfl, hw1⟩
      have hw1 := hw1.symm
      subst hw1
      go_wp2_with fail
      go_ret3
      exact ⟨rfl, rfl⟩
    · have HE := hid (rfindR_any k w he hen h.inv.emp hk h.elen)
      have t1 : (0 : Int) < (T.elder.length : Int) := by
        have : T.elder.length ≠ 0 := fun e => hen (List.eq_nil_of_length_eq_zero e)
        omega
      obtain ⟨ao, cap, rfl⟩ := he.shape
      clear h hc hr he
      cases hb2 : (lookL T.elder k).2 with
      | true =>
        have HP : Hid (placeT T k = ((lookL T.elder k).1, true, true)) := by
          unfold Hid placeT
          rw [if_neg (by rw [hb1]; simp), if_pos hb2]
        rw [hb2] at HE
        rw [HP.out]
        clear hb1 hb2
        go_enter Try.func50, Try.ntmps50
        go_wp2_with fail
        refine HR.out.mono ?_
        rintro e w1 ⟨rfl, hw1⟩
        have hw1 := hw1.symm
        subst hw1
        go_wp2_with fail
        refine HE.out.mono ?_
        rintro e w1 ⟨rfl, hw1⟩
        have hw1 := hw1.symm
        subst hw1
        go_wp2_with fail
        go_ret3
        exact ⟨rfl, rfl⟩
      | false =>
        have HP : Hid (placeT T k = (0, false, false)) := by
          unfold Hid placeT
          rw [if_neg (by rw [hb1]; simp), if_neg (by rw [hb2]; simp)]
        rw [hb2] at HE
        rw [HP.out]
        clear hb1 hb2
        go_enter Try.func50, Try.ntmps50
        go_wp2_with fail
        refine HR.out.mono ?_
        rintro e w1 ⟨rfl, hw1⟩
        have hw1 := hw1.symm
        subst hw1
        go_wp2_with fail
        refine HE.out.mono ?_
        rintro e w1 ⟨rfl, hw1⟩
        have hw1 := hw1.symm
        subst hw1
        go_wp2_with fail
        go_ret3
        exact ⟨rfl, rfl⟩

set_option maxHeartbeats 1000000 in
theorem rget_any {B gr : Nat} {ge : Option Nat} {T : Tb} (k : ByteArray) (w : World) (h : RfAt w B gr ge T) (hk : k.size ≤ 9223372036854775807) :
    Calls Try.prog 48 #[.pointer (some ⟨B, 0, none⟩), .string k] w fun e w' => e = .returned (.tuple #[(getT (.int .i64 0) T k).1, .bool (getT (.int .i64 0) T k).2]) ∧ w' = w := by
  have hlt := h.lt
  have HFn := hid (rplace_any k w h hk)
  obtain ⟨rv, ev, hc, hr, he⟩ := h.ex
  obtain ⟨c0, c1, c2, c3⟩ := cells4 hc
  obtain ⟨capr, restr, rfl, hRr, _⟩ := hr
  clear c2 c3
  unfold getT
  rcases place_cases h.inv k with ⟨i, hf, hp⟩ | ⟨i, hf, hp⟩ | ⟨hn, hp⟩
  · rw [hp] at HFn ⊢
    simp only [if_true, Bool.false_eq_true, if_false] at HFn ⊢
    have hi := hf.1
    have t0 : (0 : Int) ≤ (i : Int) := by omega
    have t1 : (i : Int) < (T.row.length : Int) := by omega
    obtain ⟨⟨x, hx⟩, _⟩ := h.rok i hf.1
    obtain ⟨d0, d1, d2, d3⟩ := hRr.cells i hf.1
    rw [hx] at d3
    simp only [hx]
    have hgl := hRr.lt
    clear h hc he hRr hf hp d0 d1 d2 hx
    go_enter Try.func48, Try.ntmps48
    go_wp2_with fail
    refine HFn.out.mono ?_
    rintro e w1 ⟨rfl, hw1⟩
    have hw1 := hw1.symm
    subst hw1
    go_wp2_with fail
    go_ret2
    exact ⟨rfl, rfl⟩
  · rw [hp] at HFn ⊢
    simp only [if_true] at HFn ⊢
    have hi := hf.1
    have hne : T.elder ≠ [] := by intro e; rw [e] at hi; simp at hi
    cases ge with
    | none => exact absurd he.1 hne
    | some g =>
      obtain ⟨cape, reste, rfl, hRe, _⟩ := he
      have t0 : (0 : Int) ≤ (i : Int) := by omega
      have t1 : (i : Int) < (T.elder.length : Int) := by omega
      obtain ⟨⟨x, hx⟩, _⟩ := h.eok i hf.1
      obtain ⟨d0, d1, d2, d3⟩ := hRe.cells i hf.1
      rw [hx] at d3
      simp only [hx]
      have hgl := hRe.lt
      clear h hc hRr hRe hf hp d0 d1 d2 hx hi hne
      go_enter Try.func48, Try.ntmps48
      go_wp2_with fail
      refine HFn.out.mono ?_
      rintro e w1 ⟨rfl, hw1⟩
      have hw1 := hw1.symm
      subst hw1
      go_wp2_with fail
      go_ret2
      exact ⟨rfl, rfl⟩
  · rw [hp] at HFn ⊢
    simp only [Bool.false_eq_true, if_false] at HFn ⊢
    clear h hc he hRr hn hp
    go_enter Try.func48, Try.ntmps48
    go_wp2_with fail
    refine HFn.out.mono ?_
    rintro e w1 ⟨rfl, hw1⟩
    have hw1 := hw1.symm
    subst hw1
    go_wp2_with fail
    go_ret2
    exact ⟨rfl, rfl⟩
end Go.Proofs.Ytobigmcklecbnaa
