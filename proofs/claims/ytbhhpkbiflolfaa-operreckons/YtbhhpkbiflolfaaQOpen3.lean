/- mark.Open: the walk. -/
import Derived.Test.YtbhhpkbiflolfaaQOpen2
namespace Go.Proofs.Ytbhhpkbiflolfaa
open Go.RowKit

/-- What Open tells: cells in memory of its own. -/
def Co (w w' : World) (u : Value) (L : List Ce) : Prop := (u = .slice none 0 0 ∧ L = []) ∨ ∃ g rest, u = .slice (some ⟨g, 0, none⟩) L.length L.length ∧ w.heap.size ≤ g ∧ RowC w' g L rest
theorem Co.shape {w w' : World} {u : Value} {L : List Ce} (h : Co w w' u L) : ∃ ao, u = .slice ao L.length L.length := by
  rcases h with ⟨rfl, rfl⟩ | ⟨g, rest, rfl, _⟩
  · exact ⟨none, rfl⟩
  · exact ⟨_, rfl⟩

theorem first_nil {w : World} {ao : Option Addr} {n cap : Nat} (m : Int) : Calls Try.prog 69 #[.slice none 0 0, .int .i64 m, .slice ao n cap] w fun e w' => e = .returned (.int .i64 0) ∧ Fr w w' (fun _ => False) := by
  go_enter Try.func69, Try.ntmps69
  go_wp2_with fail
  go_loopg [7, 9, 12] 0 (fun n s7 s9 s12 wx => s12 = .int .i64 0 ∧ s7 = .int .i64 0 ∧ wx = w)
  case atStart => exact ⟨rfl, rfl, rfl⟩
  case round =>
    obtain ⟨rfl, rfl, rfl⟩ := hrel
    go_wp2_with fail
    go_ret
    exact ⟨rfl, Fr.refl _ _⟩

set_option maxHeartbeats 2000000 in
set_option maxRecDepth 100000 in
theorem mopen_any {w : World} {B g : Nat} {ms : List Int} (hk : Km w B g ms) {v : Value} {vs : List Vw} (hv : Vs w v vs) (t : Int) : Calls Try.prog 37 #[.pointer (some ⟨B, 0, none⟩), .int .i64 t, v] w fun e w' =>
    ∃ u, e = .returned (.tuple #[u, .bool (opnB vs (leastL ms) t), .int .i64 (chkN vs t)]) ∧ Co w w' u (opnL vs (leastL ms) t) ∧ Fr w w' (fun _ => False) := by
  have HK := hid hk
  have HV := hid hv
  have HCH := hid (mcheck_any hv t)
  obtain ⟨ao, cap, rfl, hl, _⟩ := id hv
  clear hk hv
  by_cases hc : chkN vs t = 0
  · obtain ⟨h4, hok, hti⟩ := chk_ok hc
    have HWI : Hid (∀ W : World, Fr w W (fun _ => False) → Calls Try.prog 68 #[.int .i64 t, .slice ao vs.length cap] W fun e w' => ∃ u, e = .returned u ∧ Cw W w' u (winL vs t)) := fun W hW => windows_any (HV.out.fr hW (fun _ _ _ _ _ h => h)) hc
    have HN := hid (fun c hc => winL_near hok hti (c := c) hc)
    have HLL := hid (winL_len hok h4 t)
    have e1 : opnB vs (leastL ms) t = (decide ((opL vs (leastL ms) (winL vs t)).length = 0) && decide (0 < (winL vs t).length)) := by unfold opnB; rw [if_pos hc]
    have e2 : opnL vs (leastL ms) t = opL vs (leastL ms) (winL vs t) := by unfold opnL; rw [if_pos hc]
    rw [e1, e2, hc]
    rw [hc] at HCH
    clear e1 e2 hc h4 hok hti
    have HL2 := hid (fun (W : World) (hW : Fr w W (fun _ => False)) => least_any (HK.out.fr hW (fun h => h) (fun h => h)))
    generalize leastL ms = m at *
    have HOF : Hid (∀ (W : World) (gc capc : Nat) (rest : List Value), OF w W gc (winL vs t) rest → Calls Try.prog 69 #[.slice (some ⟨gc, 0, none⟩) (winL vs t).length capc, .int .i64 m, .slice ao vs.length cap] W fun e w' => e = .returned (.int .i64 ((opL vs m (winL vs t)).length : Int)) ∧ OF w w' gc (mvL vs m (winL vs t) (winL vs t).length) rest) := fun W gc capc rest hW => first_any HV.out hW HN.out (by have := HLL.out; omega) m
    have HMV : Hid (mvL vs m (winL vs t) (winL vs t).length = opL vs m (winL vs t) ++ (winL vs t).drop (opL vs m (winL vs t)).length) := by show _ = _; unfold mvL; rw [List.take_length]
    rw [HMV.out] at HOF
    have hkl : (opL vs m (winL vs t)).length ≤ (winL vs t).length := List.length_filter_le _ _
    have hll := HLL.out
    clear HMV HN HLL
    generalize winL vs t = L at *
    generalize opL vs m L = K at *
    go_enter Try.func37, Try.ntmps37
    go_wp2_with fail
    refine HCH.out.mono ?_
    rintro e w1 ⟨rfl, hf1⟩
    have HF1 := hid hf1
    clear hf1 HCH
    go_wp2_with fail
    refine (HWI.out _ HF1.out).mono ?_
    rintro e w2 ⟨u, rfl, hcw⟩
    have HF2 := hid (HF1.out.trans hcw.2)
    have HCW := hid hcw
    clear hcw HWI
    rcases HCW.out.row with ⟨rfl, rfl⟩ | ⟨gc, capc, rest, rfl, hcap, hmax, hgb, hrow, hrl⟩
    · obtain rfl : K = [] := List.eq_nil_of_length_eq_zero (by simpa using hkl)
      go_wp2_with fail
      refine (HL2.out _ HF2.out).mono ?_
      rintro e w3 ⟨rfl, hf3⟩
      have HF3 := hid (HF2.out.trans hf3)
      clear hf3
      go_wp2_with fail
      refine (first_nil m).mono ?_
      rintro e w4 ⟨rfl, hf4⟩
      have HF4 := hid (HF3.out.trans hf4)
      clear hf4
      go_wp2_with fail
      go_ret3
      exact ⟨_, rfl, Or.inl ⟨rfl, rfl⟩, HF4.out⟩
    · have HRW := hid hrow
      have HGB := hid hgb
      have HBW := hid HF1.out.size
      clear hrow hgb hrl HCW
      unfold maxLen at hmax
      have k1 : (K.length : Int) ≤ (capc : Int) := by omega
      have k2 : K.length ≤ capc := by omega
      go_wp2_with fail
      refine (HL2.out _ HF2.out).mono ?_
      rintro e w3 ⟨rfl, hf3⟩
      have HO3 : Hid (OF w w3 gc L rest) := ⟨HRW.out.fr hf3 (fun h => h), HF2.out.trans hf3, by have := HBW.out; have := HGB.out; omega⟩
      clear hf3
      go_wp2_with fail
      refine (HOF.out _ _ _ _ HO3.out).mono ?_
      rintro e w4 ⟨rfl, ho4⟩
      have HO4 := hid ho4
      clear ho4 HO3 HOF
      have HRC : Hid (RowC w4 gc K (cv (L.drop K.length) ++ rest)) := by
        have := HO4.out.row
        unfold RowC at this
        rw [cv_append, List.append_assoc] at this
        exact this
      have HB4 := hid HO4.out.bn
      have HF4 := hid HO4.out.fr
      clear HO4
      rcases Nat.eq_zero_or_pos K.length with hk0 | hk0
      · obtain rfl : K = [] := List.eq_nil_of_length_eq_zero hk0
        clear hk0
        rcases Nat.eq_zero_or_pos L.length with hl0 | hl0
        · obtain rfl : L = [] := List.eq_nil_of_length_eq_zero hl0
          clear hl0
          go_wp2_with fail
          go_ret3
          exact ⟨_, rfl, Or.inr ⟨gc, _, rfl, HB4.out, HRC.out⟩, HF4.out⟩
        · have hl1 : (0 : Int) < (L.length : Int) := by omega
          go_wp2_with fail
          go_ret3
          exact ⟨_, by simp [hl0], Or.inr ⟨gc, _, rfl, HB4.out, HRC.out⟩, HF4.out⟩
      · have hk1 : ¬ (K.length : Int) = 0 := by omega
        have hk2 : ((K.length : Int) == 0) = false := by simp; intro e; subst e; simp at hk0
        have hk3 : ¬ K.length = 0 := by omega
        generalize hKn : K.length = kn at *
        have HKN := hid hKn
        clear hKn
        go_wp2_with fail
        go_ret3
        exact ⟨.slice (some ⟨gc, 0, none⟩) kn kn, by simp [HKN.out, hk3], Or.inr ⟨gc, _, by rw [HKN.out], HB4.out, HRC.out⟩, HF4.out⟩
  · have e1 : opnB vs (leastL ms) t = false := by unfold opnB; rw [if_neg hc]
    have e2 : opnL vs (leastL ms) t = [] := by unfold opnL; rw [if_neg hc]
    rw [e1, e2]
    clear e1 e2
    generalize chkN vs t = cn at *
    have hc2 : (cn != 0) = true := by simpa using hc
    have hc3 : (cn == 0) = false := by simpa using hc
    go_enter Try.func37, Try.ntmps37
    go_wp2_with fail
    refine HCH.out.mono ?_
    rintro e w1 ⟨rfl, hf1⟩
    have HF1 := hid hf1
    clear hf1 HCH
    go_wp2_with fail
    go_ret3
    exact ⟨_, rfl, Or.inl ⟨rfl, rfl⟩, HF1.out⟩
end Go.Proofs.Ytbhhpkbiflolfaa
