/- AggLeast: its walk. -/
import Derived.Test.YtmfkccdlblebjaaFlF
import Derived.Test.YtmfkccdlblebjaaAKnown
import Derived.Deep.QuietTactic
import Derived.BigQuiet
import Derived.WalkSmall
namespace Go.Proofs.Ytmfkccdlblebjaa
open Go.RowKit

theorem nan_ne {x : Nat} (h : ¬ numF x) : eqF x x = false := by
  have e : fOrd x x = none := order_nan h
  unfold eqF
  rw [e]
  rfl

set_option maxHeartbeats 8000000 in
set_option maxRecDepth 100000 in
theorem least_walk (vl vs vf : Value) (l s : List Int) (f : List Nat) (w : World) (hl : Is w vl l) (hs : Is w vs s) (hf : Fs w vf f) :
    Calls Try.prog 4 #[vl, vs, vf] w fun e w' => e = .returned (.bool true) ∧ Fr w w' (fun _ => False) := by
  obtain ⟨lo', lcap, rfl, hllen, _, hlcell⟩ := id hl
  obtain ⟨so', scap, rfl, hslen, _, hscell⟩ := id hs
  obtain ⟨fo', fcap, rfl, hflen, hfcell⟩ := id hf
  have HL := hid hl
  have HS := hid hs
  have HF := hid hf
  have HCF := hid hfcell
  have HCL := hid hlcell
  have HCS := hid hscell
  have HE1 := hid (stat_ends l)
  have HE2 := hid (stat_ends s)
  clear hl hs hf hfcell hlcell hscell
  have r4 := run_neF
  go_enter Try.func4, Try.ntmps4
  go_wp2_with fail
  refine (known_any _).mono ?_
  rintro e w1 ⟨rfl, hf1⟩
  have HF1 := hid hf1
  clear hf1
  go_wp2_with fail
  go_loopw [7] (fun i wr => ∃ (k m : Nat), k ≤ f.length ∧ i = .int .i64 (k : Int) ∧ wr = w1.drewN m ∧ Hid (∀ x ∈ f.take k, numF x)) (fun i _ => f.length - (intOf i).toNat)
  case atStart => exact ⟨0, 0, Nat.zero_le _, rfl, rfl, hid (fun x hx => by simp at hx)⟩
  case round =>
    obtain ⟨k, m, hk, rfl, rfl, HN⟩ := hrel
    by_cases hlt : k < f.length
    · obtain ⟨b, off, rfl, hck⟩ := HCF.out (by intro e; subst e; simp at hlt)
      have t1 : (k : Int) < (f.length : Int) := by omega
      have hxk : w1.cell? ⟨b, off + k, none⟩ = some (.float .f64 (f.getD k 0)) := by
        have h0 := hck k hlt
        rw [(fr_rules HF1.out).1 b (off + k) (World.block_lt_of_cell? w _ h0)]
        exact h0
      have HT := hid (take_getN f k hlt)
      generalize f.getD k 0 = x at *
      clear hck
      by_cases hx : numF x
      · have ex := eqF_self hx
        go_wp2_with fail
        go_quiet (fail)
        go_wp2_with fail
        go_roundw
        case rel => exact ⟨k + 1, _, by omega, by go_num, rfl, hid (fun y hy => (List.mem_append.1 (HT.out ▸ hy)).elim (HN.out y) (fun h => by simp at h; subst h; exact hx))⟩
        case measure => simp [intOf]; omega
      · have ex := nan_ne hx
        go_wp2_with fail
        go_quiet (fail)
        go_wp2_with fail
        go_ret
        exact ⟨rfl, (HF1.out.drewN m).drewN _⟩
    · have t1 : ¬ (k : Int) < (f.length : Int) := by omega
      have e : f.take k = f := List.take_of_length_le (by omega)
      rw [e] at HN
      clear e
      have HFW := hid (HF1.out.drewN m)
      generalize w1.drewN m = W at *
      have HLW := hid (HL.out.fr HFW.out)
      have HSW := hid (HS.out.fr HFW.out)
      have HFL := hid (floats_any _ f W (HF.out.fr HFW.out) HN.out)
      have HEN := hid (ends_any _ l W HLW.out)
      have HA := hid (least_any _ l W HLW.out)
      have HB := hid (most_any _ l W HLW.out)
      have HC := hid (leastI_any _ s W HSW.out)
      have HD := hid (mostI_any _ s W HSW.out)
      clear HL HS HF HCF HN HF1 r4
      by_cases he : l = []
      · by_cases hse : s = []
        · obtain rfl : l = [] := he
          have e1 : (stat ([] : List Int)).lo = 0 := rfl
          have e2 : (stat ([] : List Int)).hi = 0 := rfl
          rw [e1] at HA HEN
          rw [e2] at HB HEN
          clear e1 e2
          go_wp2_with fail
          refine HA.out.mono ?_
          rintro e w2 ⟨rfl, hw2⟩
          have hw2 := hw2.symm
          subst hw2
          go_wp2_with fail
          refine HB.out.mono ?_
          rintro e w2 ⟨rfl, hw2⟩
          have hw2 := hw2.symm
          subst hw2
          go_wp2_with fail
          refine wp_loop_rounds 1 ?_
          rw [rounds_succ]
          obtain rfl : s = [] := hse
          have e1 : (stat ([] : List Int)).lo = 0 := rfl
          have e2 : (stat ([] : List Int)).hi = 0 := rfl
          rw [e1] at HC
          rw [e2] at HD
          clear e1 e2
          go_wp2_with fail
          refine HC.out.mono ?_
          rintro e w2 ⟨rfl, hw2⟩
          have hw2 := hw2.symm
          subst hw2
          go_wp2_with fail
          refine HD.out.mono ?_
          rintro e w2 ⟨rfl, hw2⟩
          have hw2 := hw2.symm
          subst hw2
          go_wp2_with fail
          refine wp_loop_rounds 1 ?_
          rw [rounds_succ]
          go_wp2_with fail
          refine HFL.out.mono ?_
          rintro e w2 ⟨rfl, hw2⟩
          have hw2 := hw2.symm
          subst hw2
          go_wp2_with fail
          refine HEN.out.mono ?_
          rintro e w2 ⟨rfl, hw2⟩
          have hw2 := hw2.symm
          subst hw2
          go_wp2_with fail
          go_ret
          exact ⟨rfl, HFW.out⟩
        · obtain rfl : l = [] := he
          have e1 : (stat ([] : List Int)).lo = 0 := rfl
          have e2 : (stat ([] : List Int)).hi = 0 := rfl
          rw [e1] at HA HEN
          rw [e2] at HB HEN
          clear e1 e2
          go_wp2_with fail
          refine HA.out.mono ?_
          rintro e w2 ⟨rfl, hw2⟩
          have hw2 := hw2.symm
          subst hw2
          go_wp2_with fail
          refine HB.out.mono ?_
          rintro e w2 ⟨rfl, hw2⟩
          have hw2 := hw2.symm
          subst hw2
          go_wp2_with fail
          refine wp_loop_rounds 1 ?_
          rw [rounds_succ]
          have hspos : 0 < s.length := List.length_pos_iff.2 hse
          have hsd : decide (0 < s.length) = true := by simpa using hspos
          have hspi : (0 : Int) < (s.length : Int) := by omega
          rw [hsd] at HC HD
          have HM1 := hid ((HE2.out.2 hse).1)
          have HM2 := hid ((HE2.out.2 hse).2)
          have HB2 := hid HE2.out.1
          generalize (stat s).lo = slo at *
          generalize (stat s).hi = shi at *
          clear hsd hse HE2
          go_wp2_with fail
          refine HC.out.mono ?_
          rintro e w2 ⟨rfl, hw2⟩
          have hw2 := hw2.symm
          subst hw2
          go_wp2_with fail
          refine HD.out.mono ?_
          rintro e w2 ⟨rfl, hw2⟩
          have hw2 := hw2.symm
          subst hw2
          go_wp2_with fail
          go_loop [16, 17, 18] (fun p q i => ∃ (k : Nat), k ≤ s.length ∧ i = .int .i64 (k : Int) ∧ p = .bool ((s.take k).any (fun y => y == slo)) ∧ q = .bool ((s.take k).any (fun y => y == shi))) (fun _ _ i => s.length - (intOf i).toNat)
          case atStart => exact ⟨0, Nat.zero_le _, rfl, rfl, rfl⟩
          case round =>
            obtain ⟨k, hk, rfl, rfl, rfl⟩ := hrel
            by_cases hlt : k < s.length
            · obtain ⟨b, off, rfl, hck⟩ := HCS.out (by intro e; subst e; simp at hlt)
              have t1 : (k : Int) < (s.length : Int) := by omega
              have hxk : W.cell? ⟨b, off + k, none⟩ = some (.int .i64 (s.getD k 0)) := by
                have h0 := hck k hlt
                rw [(fr_rules HFW.out).1 b (off + k) (World.block_lt_of_cell? w _ h0)]
                exact h0
              have hm := HB2.out (s.getD k 0) (by simp only [List.getD, List.getElem?_eq_getElem hlt, Option.getD_some]; exact List.getElem_mem hlt)
              have HL := hid (any_take s 0 (fun y => y == slo) k hlt)
              have HH := hid (any_take s 0 (fun y => y == shi) k hlt)
              generalize s.getD k 0 = x at *
              obtain ⟨g1, g2⟩ := hm
              have g3 : ¬ x < slo := by omega
              have g4 : ¬ shi < x := by omega
              generalize (s.take k).any (fun y => y == slo) = p at *
              generalize (s.take k).any (fun y => y == shi) = q at *
              clear hck HB2 HM1 HM2
              cases p <;> cases q
              all_goals (go_wp2_with fail)
              all_goals go_round
              all_goals (first | (case rel => exact ⟨k + 1, by omega, by go_num, by rw [HL.out]; simp, by rw [HH.out]; simp⟩) | skip)
              all_goals (first | (case measure => simp [intOf]; omega) | skip)
            · have t1 : ¬ (k : Int) < (s.length : Int) := by omega
              have e1 : (s.take k).any (fun y => y == slo) = true := by rw [List.take_of_length_le (by omega), List.any_eq_true]; exact ⟨_, HM1.out, by simp⟩
              have e2 : (s.take k).any (fun y => y == shi) = true := by rw [List.take_of_length_le (by omega), List.any_eq_true]; exact ⟨_, HM2.out, by simp⟩
              rw [e1, e2]
              clear e1 e2 HB2 HM1 HM2
              go_wp2_with fail
              refine HFL.out.mono ?_
              rintro e w2 ⟨rfl, hw2⟩
              have hw2 := hw2.symm
              subst hw2
              go_wp2_with fail
              refine HEN.out.mono ?_
              rintro e w2 ⟨rfl, hw2⟩
              have hw2 := hw2.symm
              subst hw2
              go_wp2_with fail
              go_ret
              exact ⟨rfl, HFW.out⟩
      · by_cases hse : s = []
        · have hpos : 0 < l.length := List.length_pos_iff.2 he
          have hd : decide (0 < l.length) = true := by simpa using hpos
          have hpi : (0 : Int) < (l.length : Int) := by omega
          rw [hd] at HA HB
          have HM := hid ((HE1.out.2 he).1)
          have HB1 := hid HE1.out.1
          generalize (stat l).lo = lo at *
          generalize (stat l).hi = hi at *
          clear hd he HE1
          go_wp2_with fail
          refine HA.out.mono ?_
          rintro e w2 ⟨rfl, hw2⟩
          have hw2 := hw2.symm
          subst hw2
          go_wp2_with fail
          refine HB.out.mono ?_
          rintro e w2 ⟨rfl, hw2⟩
          have hw2 := hw2.symm
          subst hw2
          go_wp2_with fail
          go_loop [12, 13] (fun c i => ∃ (k t : Nat), k ≤ l.length ∧ i = .int .i64 (k : Int) ∧ c = .int .i64 (t : Int) ∧ t ≤ k ∧ Hid ((l.take k).any (fun y => y == lo) = true → 1 ≤ t)) (fun _ i => l.length - (intOf i).toNat)
          case atStart => exact ⟨0, 0, Nat.zero_le _, rfl, rfl, Nat.le_refl _, hid (fun h => by simp at h)⟩
          case round =>
            obtain ⟨k, t, hk, rfl, rfl, htk, HT⟩ := hrel
            by_cases hlt : k < l.length
            · obtain ⟨b, off, rfl, hck⟩ := HCL.out (by intro e; subst e; simp at hlt)
              have t1 : (k : Int) < (l.length : Int) := by omega
              have hxk : W.cell? ⟨b, off + k, none⟩ = some (.int .i64 (l.getD k 0)) := by
                have h0 := hck k hlt
                rw [(fr_rules HFW.out).1 b (off + k) (World.block_lt_of_cell? w _ h0)]
                exact h0
              have hm := HB1.out (l.getD k 0) (by simp only [List.getD, List.getElem?_eq_getElem hlt, Option.getD_some]; exact List.getElem_mem hlt)
              have HAN := hid (any_take l 0 (fun y => y == lo) k hlt)
              generalize l.getD k 0 = x at *
              obtain ⟨g1, g2⟩ := hm
              have g3 : ¬ x < lo := by omega
              have g4 : ¬ hi < x := by omega
              clear hck
              by_cases q1 : x = lo
              · have p1 : (x == lo) = true := by simpa using q1
                clear q1
                go_wp2_with fail
                go_round
                case rel => exact ⟨k + 1, t + 1, by omega, by go_num, by go_num, by omega, hid (fun _ => by omega)⟩
                case measure => simp [intOf]; omega
              · have p1 : (x == lo) = false := by simpa using q1
                have HQ : Hid ((l.take (k + 1)).any (fun y => y == lo) = true → 1 ≤ t) := by
                  intro h
                  rw [HAN.out, p1, Bool.or_false] at h
                  exact HT.out h
                clear q1
                by_cases q2 : x = hi
                · have p2 : (x == hi) = true := by simpa using q2
                  clear q2
                  go_wp2_with fail
                  go_round
                  case rel => exact ⟨k + 1, t + 1, by omega, by go_num, by go_num, by omega, hid (fun _ => by omega)⟩
                  case measure => simp [intOf]; omega
                · have p2 : (x == hi) = false := by simpa using q2
                  clear q2
                  go_wp2_with fail
                  go_round
                  case rel => exact ⟨k + 1, t, by omega, by go_num, rfl, by omega, HQ⟩
                  case measure => simp [intOf]; omega
            · have t1 : ¬ (k : Int) < (l.length : Int) := by omega
              have ht1 : 1 ≤ t := HT.out (by rw [List.take_of_length_le (by omega), List.any_eq_true]; exact ⟨_, HM.out, by simp⟩)
              have htb : ((t : Int) == 0) = false := by simp; omega
              clear HT HM HB1
              obtain rfl : s = [] := hse
              have e1 : (stat ([] : List Int)).lo = 0 := rfl
              have e2 : (stat ([] : List Int)).hi = 0 := rfl
              rw [e1] at HC
              rw [e2] at HD
              clear e1 e2
              go_wp2_with fail
              refine HC.out.mono ?_
              rintro e w2 ⟨rfl, hw2⟩
              have hw2 := hw2.symm
              subst hw2
              go_wp2_with fail
              refine HD.out.mono ?_
              rintro e w2 ⟨rfl, hw2⟩
              have hw2 := hw2.symm
              subst hw2
              go_wp2_with fail
              refine wp_loop_rounds 1 ?_
              rw [rounds_succ]
              go_wp2_with fail
              refine HFL.out.mono ?_
              rintro e w2 ⟨rfl, hw2⟩
              have hw2 := hw2.symm
              subst hw2
              go_wp2_with fail
              refine HEN.out.mono ?_
              rintro e w2 ⟨rfl, hw2⟩
              have hw2 := hw2.symm
              subst hw2
              go_wp2_with fail
              go_ret
              exact ⟨rfl, HFW.out⟩
        · have hpos : 0 < l.length := List.length_pos_iff.2 he
          have hd : decide (0 < l.length) = true := by simpa using hpos
          have hpi : (0 : Int) < (l.length : Int) := by omega
          rw [hd] at HA HB
          have HM := hid ((HE1.out.2 he).1)
          have HB1 := hid HE1.out.1
          generalize (stat l).lo = lo at *
          generalize (stat l).hi = hi at *
          clear hd he HE1
          go_wp2_with fail
          refine HA.out.mono ?_
          rintro e w2 ⟨rfl, hw2⟩
          have hw2 := hw2.symm
          subst hw2
          go_wp2_with fail
          refine HB.out.mono ?_
          rintro e w2 ⟨rfl, hw2⟩
          have hw2 := hw2.symm
          subst hw2
          go_wp2_with fail
          go_loop [12, 13] (fun c i => ∃ (k t : Nat), k ≤ l.length ∧ i = .int .i64 (k : Int) ∧ c = .int .i64 (t : Int) ∧ t ≤ k ∧ Hid ((l.take k).any (fun y => y == lo) = true → 1 ≤ t)) (fun _ i => l.length - (intOf i).toNat)
          case atStart => exact ⟨0, 0, Nat.zero_le _, rfl, rfl, Nat.le_refl _, hid (fun h => by simp at h)⟩
          case round =>
            obtain ⟨k, t, hk, rfl, rfl, htk, HT⟩ := hrel
            by_cases hlt : k < l.length
            · obtain ⟨b, off, rfl, hck⟩ := HCL.out (by intro e; subst e; simp at hlt)
              have t1 : (k : Int) < (l.length : Int) := by omega
              have hxk : W.cell? ⟨b, off + k, none⟩ = some (.int .i64 (l.getD k 0)) := by
                have h0 := hck k hlt
                rw [(fr_rules HFW.out).1 b (off + k) (World.block_lt_of_cell? w _ h0)]
                exact h0
              have hm := HB1.out (l.getD k 0) (by simp only [List.getD, List.getElem?_eq_getElem hlt, Option.getD_some]; exact List.getElem_mem hlt)
              have HAN := hid (any_take l 0 (fun y => y == lo) k hlt)
              generalize l.getD k 0 = x at *
              obtain ⟨g1, g2⟩ := hm
              have g3 : ¬ x < lo := by omega
              have g4 : ¬ hi < x := by omega
              clear hck
              by_cases q1 : x = lo
              · have p1 : (x == lo) = true := by simpa using q1
                clear q1
                go_wp2_with fail
                go_round
                case rel => exact ⟨k + 1, t + 1, by omega, by go_num, by go_num, by omega, hid (fun _ => by omega)⟩
                case measure => simp [intOf]; omega
              · have p1 : (x == lo) = false := by simpa using q1
                have HQ : Hid ((l.take (k + 1)).any (fun y => y == lo) = true → 1 ≤ t) := by
                  intro h
                  rw [HAN.out, p1, Bool.or_false] at h
                  exact HT.out h
                clear q1
                by_cases q2 : x = hi
                · have p2 : (x == hi) = true := by simpa using q2
                  clear q2
                  go_wp2_with fail
                  go_round
                  case rel => exact ⟨k + 1, t + 1, by omega, by go_num, by go_num, by omega, hid (fun _ => by omega)⟩
                  case measure => simp [intOf]; omega
                · have p2 : (x == hi) = false := by simpa using q2
                  clear q2
                  go_wp2_with fail
                  go_round
                  case rel => exact ⟨k + 1, t, by omega, by go_num, rfl, by omega, HQ⟩
                  case measure => simp [intOf]; omega
            · have t1 : ¬ (k : Int) < (l.length : Int) := by omega
              have ht1 : 1 ≤ t := HT.out (by rw [List.take_of_length_le (by omega), List.any_eq_true]; exact ⟨_, HM.out, by simp⟩)
              have htb : ((t : Int) == 0) = false := by simp; omega
              clear HT HM HB1
              have hspos : 0 < s.length := List.length_pos_iff.2 hse
              have hsd : decide (0 < s.length) = true := by simpa using hspos
              have hspi : (0 : Int) < (s.length : Int) := by omega
              rw [hsd] at HC HD
              have HM1 := hid ((HE2.out.2 hse).1)
              have HM2 := hid ((HE2.out.2 hse).2)
              have HB2 := hid HE2.out.1
              generalize (stat s).lo = slo at *
              generalize (stat s).hi = shi at *
              clear hsd hse HE2
              go_wp2_with fail
              refine HC.out.mono ?_
              rintro e w2 ⟨rfl, hw2⟩
              have hw2 := hw2.symm
              subst hw2
              go_wp2_with fail
              refine HD.out.mono ?_
              rintro e w2 ⟨rfl, hw2⟩
              have hw2 := hw2.symm
              subst hw2
              go_wp2_with fail
              go_loop [16, 17, 18] (fun p q i => ∃ (k : Nat), k ≤ s.length ∧ i = .int .i64 (k : Int) ∧ p = .bool ((s.take k).any (fun y => y == slo)) ∧ q = .bool ((s.take k).any (fun y => y == shi))) (fun _ _ i => s.length - (intOf i).toNat)
              case atStart => exact ⟨0, Nat.zero_le _, rfl, rfl, rfl⟩
              case round =>
                obtain ⟨k, hk, rfl, rfl, rfl⟩ := hrel
                by_cases hlt : k < s.length
                · obtain ⟨b, off, rfl, hck⟩ := HCS.out (by intro e; subst e; simp at hlt)
                  have t1 : (k : Int) < (s.length : Int) := by omega
                  have hxk : W.cell? ⟨b, off + k, none⟩ = some (.int .i64 (s.getD k 0)) := by
                    have h0 := hck k hlt
                    rw [(fr_rules HFW.out).1 b (off + k) (World.block_lt_of_cell? w _ h0)]
                    exact h0
                  have hm := HB2.out (s.getD k 0) (by simp only [List.getD, List.getElem?_eq_getElem hlt, Option.getD_some]; exact List.getElem_mem hlt)
                  have HL := hid (any_take s 0 (fun y => y == slo) k hlt)
                  have HH := hid (any_take s 0 (fun y => y == shi) k hlt)
                  generalize s.getD k 0 = x at *
                  obtain ⟨g1, g2⟩ := hm
                  have g3 : ¬ x < slo := by omega
                  have g4 : ¬ shi < x := by omega
                  generalize (s.take k).any (fun y => y == slo) = p at *
                  generalize (s.take k).any (fun y => y == shi) = q at *
                  clear hck HB2 HM1 HM2
                  cases p <;> cases q
                  all_goals (go_wp2_with fail)
                  all_goals go_round
                  all_goals (first | (case rel => exact ⟨k + 1, by omega, by go_num, by rw [HL.out]; simp, by rw [HH.out]; simp⟩) | skip)
                  all_goals (first | (case measure => simp [intOf]; omega) | skip)
                · have t1 : ¬ (k : Int) < (s.length : Int) := by omega
                  have e1 : (s.take k).any (fun y => y == slo) = true := by rw [List.take_of_length_le (by omega), List.any_eq_true]; exact ⟨_, HM1.out, by simp⟩
                  have e2 : (s.take k).any (fun y => y == shi) = true := by rw [List.take_of_length_le (by omega), List.any_eq_true]; exact ⟨_, HM2.out, by simp⟩
                  rw [e1, e2]
                  clear e1 e2 HB2 HM1 HM2
                  go_wp2_with fail
                  refine HFL.out.mono ?_
                  rintro e w2 ⟨rfl, hw2⟩
                  have hw2 := hw2.symm
                  subst hw2
                  go_wp2_with fail
                  refine HEN.out.mono ?_
                  rintro e w2 ⟨rfl, hw2⟩
                  have hw2 := hw2.symm
                  subst hw2
                  go_wp2_with fail
                  go_ret
                  exact ⟨rfl, HFW.out⟩
end Go.Proofs.Ytmfkccdlblebjaa
