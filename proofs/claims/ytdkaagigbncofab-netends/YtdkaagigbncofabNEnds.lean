/- NetEnds: the walk. -/
import Derived.Test.YtdkaagigbncofabNArgs
import Derived.Test.YtdkaagigbncofabNEndsP
namespace Go.Proofs.Ytdkaagigbncofab
open Go.RowKit

set_option maxHeartbeats 16000000 in
set_option maxRecDepth 100000 in
theorem ends_walk {w : World} (sm : Int) (cut : Bool) {v0 v1 : Value} {z y : List Nat} (hv0 : BsC w v0 z) (hv1 : BsC w v1 y) : Calls Try.prog 3 #[v0, v1, .int .i64 sm, .bool cut] w fun e w' => e = .returned (.bool true) ∧ Fr w w' (fun _ => False) := by
  have HN := hid (nnew_i (w := w) w (a := 50) (b := 50) (by omega) (by omega) (Fr.refl _ _))
  have HO := hid (fun (W : World) (B : Nat) (h : NI w W B (np0 50 50)) => h.open 2)
  rw [e_new.1] at HO
  have HE1 := hid e_new.2
  have HZ0 := hid hv0
  have HY0 := hid hv1
  obtain ⟨a0, n0, rfl, hc0, hl0, hb0, _⟩ := hv0
  obtain ⟨a1, n1, rfl, hc1, hl1, hb1, _⟩ := hv1
  clear hb0 hb1
  generalize openS (np0 50 50) 2 = s1 at *
  by_cases hsm : z.length ≤ 50 ∧ y.length ≤ 50
  case neg =>
    have hgt : (50 : Int) < (z.length : Int) + (y.length : Int) := by omega
    by_cases hz : z.length ≤ 50
    · have t1 : ¬ (50 : Int) < (z.length : Int) := by omega
      have t2 : (50 : Int) < (y.length : Int) := by omega
      go_enter Try.func3, Try.ntmps3
      go_wp2_with fail
      refine (HN.out).mono ?_
      rintro e w1 ⟨B, rfl, h1⟩
      have H1 := hid h1
      clear h1 HN
      go_wp2_with fail
      refine (HO.out _ _ H1.out).mono ?_
      rintro e w2 ⟨rfl, h1⟩
      have H2 := hid h1
      clear h1
      go_wp2_with fail
      refine (head_any _).mono ?_
      rintro e wz ⟨rfl, h1⟩
      have HZ := hid (H2.out.fr.trans h1)
      clear h1
      go_wp2_with fail
      go_ret
      exact ⟨rfl, HZ.out⟩
    · have t1 : (50 : Int) < (z.length : Int) := by omega
      go_enter Try.func3, Try.ntmps3
      go_wp2_with fail
      refine (HN.out).mono ?_
      rintro e w1 ⟨B, rfl, h1⟩
      have H1 := hid h1
      clear h1 HN
      go_wp2_with fail
      refine (HO.out _ _ H1.out).mono ?_
      rintro e w2 ⟨rfl, h1⟩
      have H2 := hid h1
      clear h1
      go_wp2_with fail
      refine (head_any _).mono ?_
      rintro e wz ⟨rfl, h1⟩
      have HZ := hid (H2.out.fr.trans h1)
      clear h1
      go_wp2_with fail
      go_ret
      exact ⟨rfl, HZ.out⟩
  case pos =>
    obtain ⟨hz, hy⟩ := hsm
    have t1 : ¬ (50 : Int) < (z.length : Int) := by omega
    have t2 : ¬ (50 : Int) < (y.length : Int) := by omega
    obtain ⟨es1, es2⟩ := e_send HE1.out hy
    have HSE : Hid (∀ W B, NI w W B s1 → Calls Try.prog 9 #[.pointer (some ⟨B, 0, none⟩), .int .i64 2, .slice a1 y.length n1] W fun e w' => e = .returned (.int .i64 0) ∧ NI w w' B (sendS s1 2 y)) := fun W B h => by
      have hb := HY0.out.fr h.fr (fun _ h => h.elim)
      obtain ⟨q1, q2, q3, q4, q5, q6, q7⟩ := hb
      simp only [Value.slice.injEq] at q3
      obtain ⟨rfl, _, rfl⟩ := q3
      have := h.send 2 (zs := y) rfl q6 q4
      rw [es1] at this
      exact this
    have HE2 := hid es2
    generalize sendS s1 2 y = s2 at *
    obtain ⟨eb1, eb2, mb, hmb, eb3⟩ := e_bring HE2.out hy sm
    have HBR := hid (fun W B (h : NI w W B s2) => h.bring (by rw [eb1]; omega) 2 sm)
    rw [eb2] at HBR
    have HE3 := hid eb3
    generalize bringK s2 2 sm = pk at *
    generalize bringS s2 2 sm = s3 at *
    obtain ⟨ew1, ew2⟩ := e_write HE3.out hz
    have HWB : Hid (∀ (W : World) (s : Np) B, NI w W B s → Calls Try.prog 11 #[.pointer (some ⟨B, 0, none⟩), .int .i64 2, .slice a0 z.length n0] W fun e w' => e = .returned (.tuple #[.int .i64 (writeK s 2 z.length : Int), .int .i64 (useE s 2)]) ∧ NI w w' B (writeS s 2 z)) := fun W s B h => by
      have hb := HZ0.out.fr h.fr (fun _ h => h.elim)
      obtain ⟨q1, q2, q3, q4, q5, q6, q7⟩ := hb
      simp only [Value.slice.injEq] at q3
      obtain ⟨rfl, _, rfl⟩ := q3
      exact h.write 2 (zs := z) rfl q6 q4
    have HSB : Hid (∀ (W : World) (s : Np) B, NI w W B s → Calls Try.prog 9 #[.pointer (some ⟨B, 0, none⟩), .int .i64 2, .slice a1 y.length n1] W fun e w' => e = .returned (.int .i64 (sendE s 2 y)) ∧ NI w w' B (sendS s 2 y)) := fun W s B h => by
      have hb := HY0.out.fr h.fr (fun _ h => h.elim)
      obtain ⟨q1, q2, q3, q4, q5, q6, q7⟩ := hb
      simp only [Value.slice.injEq] at q3
      obtain ⟨rfl, _, rfl⟩ := q3
      exact h.send 2 (zs := y) rfl q6 q4
    have HWR := hid (fun W B (h : NI w W B s3) => HWB.out W s3 B h)
    rw [ew1] at HWR
    have HE3b := hid ew2
    generalize writeK s3 2 z.length = wk at *
    generalize writeS s3 2 z = s4 at *
    obtain ⟨ef1, ef2, ef3, ef4⟩ := e_fetch HE3b.out sm
    have HFE := hid (fun W B (h : NI w W B s4) => h.fetch (by rw [ef1]; omega) 2 sm)
    rw [ef2, ef3] at HFE
    have hk : min z.length sm.toNat ≤ z.length := by omega
    have HE4 := hid ef4
    have HCV : Hid (∀ (W : World) (q : Nat), q ≤ z.length → Fr w W (fun _ => False) → (convert 22 9 (.slice a0 q n0)).run Try.prog W = .ok (.string (str8 (z.take q))) W) := fun W q hq hf => by
      obtain ⟨q1, q2, q3, q4, q5, q6, q7⟩ := HZ0.out.fr hf (fun _ h => h.elim)
      simp only [Value.slice.injEq] at q3
      obtain ⟨rfl, _, rfl⟩ := q3
      exact run_str8 Try.underlying22 Try.underlying5 Try.underlying9 (bs_take q6 q hq)
    generalize min z.length sm.toNat = k at *
    generalize fetchS s4 2 sm = s5 at *
    have hkc : (k : Int) ≤ (n0 : Int) := by omega
    have HKK := hid hk
    have hk0 : (0 : Int) ≤ (k : Int) := by omega
    have hkl : k ≤ 50 := by omega
    have hm5 : mb + k ≤ 100 := by omega
    generalize hmk : mb + k = m5 at *
    clear es1 es2 eb1 eb2 eb3 ew1 ew2 ef1 ef2 ef3 ef4 hmk hmb
    cases cut with
    | true =>
      obtain ⟨ec1, ec2, ec3⟩ := e_cut HE4.out
      have HCU := hid (fun W B (h : NI w W B s5) => h.cut 2)
      rw [ec1] at HCU
      have HCU2 := hid (fun W B (h : NI w W B (fetchS (bringS (cutS s5 2) 2 99) 2 99)) => h.cut 2)
      rw [ec3] at HCU2
      generalize cutS s5 2 = s6 at *
      have HE5 : Hid (E5 s6 z k m5 true 0) := ec2
      clear ec1 ec2 ec3
      have HIS := hid (fun W B (h : NI w W B s6) => h.is 2)
      rw [HE5.out.io, HE5.out.it] at HIS
      have HUN := hid (fun W B (h : NI w W B s6) => h.under 2)
      rw [HE5.out.ui, HE5.out.uo] at HUN
      have HHE := hid (fun W B (h : NI w W B s6) => h.heard (by rw [HE5.out.sm]; omega) 2)
      rw [HE5.out.hb, HE5.out.hn] at HHE
      have HTK := hid (fun W B (h : NI w W B s6) => h.take 2)
      rw [HE5.out.ue, HE5.out.tb, HE5.out.ts] at HTK
      have HW6 := hid (fun W B (h : NI w W B s6) => HWB.out W s6 B h)
      rw [(HE5.out.wr z).1, (HE5.out.wr z).2.1, HE5.out.ue] at HW6
      have HS6 := hid (fun W B (h : NI w W B s6) => HSB.out W s6 B h)
      rw [(HE5.out.wr y).2.2.1, (HE5.out.wr y).2.2.2] at HS6
      have HC6 := hid (fun W B (h : NI w W B s6) => h.close 2)
      rw [HE5.out.ue, HE5.out.cl] at HC6
      have HO6 := hid (fun W B (h : NI w W B s6) => h.open 2)
      rw [HE5.out.op.1, HE5.out.op.2] at HO6
      have HM6 := hid (fun W B (h : NI w W B s6) => h.moved)
      rw [HE5.out.sm] at HM6
      have HB6 := hid (fun W B (h : NI w W B s6) => h.bring (by rw [HE5.out.sm]; omega) 2 99)
      rw [HE5.out.bk, HE5.out.fe] at HB6
      have HF6 := hid (fun W B (h : NI w W B (bringS s6 2 99)) => h.fetch (by rw [HE5.out.bm]; omega) 2 99)
      rw [HE5.out.fk, HE5.out.bf] at HF6
      have HH7 := hid (fun W B (h : NI w W B (fetchS (bringS s6 2 99) 2 99)) => h.heard (by rw [HE5.out.fm]; omega) 2)
      rw [HE5.out.fh, HE5.out.fn] at HH7
      have HM7 := hid (fun W B (h : NI w W B (fetchS (bringS s6 2 99) 2 99)) => h.moved)
      rw [HE5.out.fm] at HM7
      generalize fetchS (bringS s6 2 99) 2 99 = s8 at *
      generalize bringS s6 2 99 = s7 at *
      rw [Bool.true_or] at HHE
      rw [Nat.add_zero] at HM7 HH7
      go_enter Try.func3, Try.ntmps3
      go_wp2_with fail
      refine (HN.out).mono ?_
      rintro e w1 ⟨B, rfl, h1⟩
      have H1 := hid h1
      clear h1 HN
      go_wp2_with fail
      refine (HO.out _ _ H1.out).mono ?_
      rintro e w2 ⟨rfl, h1⟩
      have H2 := hid h1
      clear h1
      go_wp2_with fail
      refine (HSE.out _ _ H2.out).mono ?_
      rintro e w3 ⟨rfl, h1⟩
      have H3 := hid h1
      clear h1
      go_wp2_with fail
      refine (HBR.out _ _ H3.out).mono ?_
      rintro e w4 ⟨rfl, h1⟩
      have H4 := hid h1
      clear h1
      go_wp2_with fail
      refine (HWR.out _ _ H4.out).mono ?_
      rintro e w5 ⟨rfl, h1⟩
      have H5 := hid h1
      clear h1
      go_wp2_with fail
      refine (HFE.out _ _ H5.out).mono ?_
      rintro e w6 ⟨rfl, h1⟩
      have H6 := hid h1
      clear h1
      go_wp2_with fail
      refine (HCU.out _ _ H6.out).mono ?_
      rintro e w7 ⟨rfl, h1⟩
      have H7 := hid h1
      clear h1
      go_wp2_with fail
      refine (HIS.out _ _ H7.out).mono ?_
      rintro e w8 ⟨rfl, h1, h9⟩
      have H8 := hid h1
      clear h1 h9
      go_wp2_with fail
      refine (HUN.out _ _ H8.out).mono ?_
      rintro e w9 ⟨rfl, h1, h9⟩
      have H9 := hid h1
      clear h1 h9
      go_wp2_with fail
      refine (HHE.out _ _ H9.out).mono ?_
      rintro e w10 ⟨u, rfl, hu, h1, h9⟩
      have H10 := hid h1
      clear h1 h9
      obtain ⟨au, cu, hsu, _, _⟩ := hu.shape
      subst hsu
      have hc1 := fun n => run_str8 Try.underlying22 Try.underlying5 Try.underlying9 (bs_all (hu.fr ((Fr.refl _ (fun _ => False)).drewN n) (fun _ _ h => h)))
      have hc2 := fun n => HCV.out _ k (by have := HKK.out; exact this) (H10.out.fr.drewN n)
      have hc10 := run_str8 Try.underlying22 Try.underlying5 Try.underlying9 (bs_all hu)
      have hc20 := HCV.out _ k (by have := HKK.out; exact this) H10.out.fr
      clear hu
      generalize (z.take k).length = lu at *
      generalize str8 (z.take k) = SK at *
      skip
      go_wp2_with fail
      go_quiet (fail)
      clear hc1 hc2 hc10 hc20
      have HQ := hid (H10.out.still ((Fr.refl w10 (fun _ => False)).drewN nq))
      generalize w10.drewN nq = wq at *
      go_wp2_with fail
      refine (HTK.out _ _ HQ.out).mono ?_
      rintro e w11 ⟨v2, rfl, h2, h1⟩
      have H11 := hid h1
      clear h1 h2
      go_wp2_with fail
      refine (HW6.out _ _ H11.out).mono ?_
      rintro e w12 ⟨rfl, h1⟩
      have H12 := hid h1
      clear h1
      go_wp2_with fail
      refine (HS6.out _ _ H12.out).mono ?_
      rintro e w13 ⟨rfl, h1⟩
      have H13 := hid h1
      clear h1
      go_wp2_with fail
      refine (HC6.out _ _ H13.out).mono ?_
      rintro e w14 ⟨rfl, h1⟩
      have H14 := hid h1
      clear h1
      go_wp2_with fail
      refine (HO6.out _ _ H14.out).mono ?_
      rintro e w15 ⟨rfl, h1⟩
      have H15 := hid h1
      clear h1
      go_wp2_with fail
      refine (HM6.out _ _ H15.out).mono ?_
      rintro e w16 ⟨rfl, h1, h9⟩
      have H16 := hid h1
      clear h1 h9
      go_wp2_with fail
      refine (HB6.out _ _ H16.out).mono ?_
      rintro e w17 ⟨rfl, h1⟩
      have H17 := hid h1
      clear h1
      go_wp2_with fail
      refine (HF6.out _ _ H17.out).mono ?_
      rintro e w18 ⟨rfl, h1⟩
      have H18 := hid h1
      clear h1
      go_wp2_with fail
      refine (HH7.out _ _ H18.out).mono ?_
      rintro e w19 ⟨u2, rfl, hu, h1, h9⟩
      have H19 := hid h1
      clear h1 h9
      obtain ⟨au2, cu2, hsu, _, _⟩ := hu.shape
      subst hsu
      have HHU := hid hu
      clear hu
      generalize hlu2 : (z.take k).length = lu2 at *
      have HLU0 : Hid ((z.take k).length = lu2) := hlu2
      clear hlu2
      go_wp2_with fail
      refine (HM7.out _ _ H19.out).mono ?_
      rintro e w20 ⟨rfl, h1, h9⟩
      have H20 := hid h1
      clear h1
      obtain rfl : w19 = w20 := h9.symm
      clear h9
      have hcA := run_str8 Try.underlying22 Try.underlying5 Try.underlying9 (bs_all HHU.out)
      have hcB := HCV.out w19 k HKK.out H20.out.fr
      have hcA2 := run_str8 Try.underlying22 Try.underlying5 Try.underlying9 (bs_all (HHU.out.fr (Fr.refl _ (fun _ => False)).drew (fun _ _ h => h)))
      have hcB2 := HCV.out w19.drew k HKK.out (H20.out.fr.drew)
      have HLU : Hid ((z.take k).length = lu2) := HLU0
      rw [HLU.out] at hcA hcA2
      generalize str8 (z.take k) = SZ at *
      go_wp2_with fail
      have HZZ := hid (Fr.refl w (fun _ => False))
      have HX := hid H20.out.fr
      go_region_held (fun W' => Hid (Fr w W' (fun _ => False)))
        ((show Fr w _ (fun _ => False); repeat (first | with_reducible exact HX.out | with_reducible apply Fr.drew)))
        ((first | (go_at_call 13; refine (HCU2.out _ _ (H20.out.still (Fr.refl _ _).drew)).mono ?_; rintro e wa ⟨rfl, h1⟩; have HA := hid h1; clear h1; clear HX; have HX := hid HA.out.fr) | (go_at_call 8; refine (head_any _).mono ?_; rintro e wz ⟨rfl, h1⟩; have HB := hid (HA.out.fr.trans h1); clear h1; clear HX; have HX := hid HB.out)))
      all_goals
        go_wp2_with fail
        go_ret
        exact ⟨rfl, HX.out⟩
    | false =>
      obtain ⟨ec1, ec2, ec3, ec4⟩ := e_close HE4.out hz
      have HCU := hid (fun W B (h : NI w W B s5) => h.close 2)
      rw [ec1] at HCU
      have HCU2 := hid (fun W B (h : NI w W B (fetchS (bringS (closeS s5 2) 2 99) 2 99)) => h.cut 2)
      rw [ec3] at HCU2
      have HCU3 := hid (fun W B (h : NI w W B (cutS (fetchS (bringS (closeS s5 2) 2 99) 2 99) 2)) => h.cut 2)
      rw [ec4] at HCU3
      generalize closeS s5 2 = s6 at *
      obtain ⟨q, hq⟩ : ∃ q : Nat, z.length - k = q := ⟨_, rfl⟩
      have HE5 : Hid (E5 s6 z k m5 false q) := by rw [← hq]; exact ec2
      have hq50 : q ≤ 50 := by omega
      have hq1 : (z.length : Int) - (k : Int) = (q : Int) := by omega
      have hq0 : Hid (k + q = z.length) := by show _ = _; omega
      clear ec1 ec2 ec3 ec4 hq
      have HIS := hid (fun W B (h : NI w W B s6) => h.is 2)
      rw [HE5.out.io, HE5.out.it] at HIS
      have HUN := hid (fun W B (h : NI w W B s6) => h.under 2)
      rw [HE5.out.ui, HE5.out.uo] at HUN
      have HHE := hid (fun W B (h : NI w W B s6) => h.heard (by rw [HE5.out.sm]; omega) 2)
      rw [HE5.out.hb, HE5.out.hn] at HHE
      have HTK := hid (fun W B (h : NI w W B s6) => h.take 2)
      rw [HE5.out.ue, HE5.out.tb, HE5.out.ts] at HTK
      have HW6 := hid (fun W B (h : NI w W B s6) => HWB.out W s6 B h)
      rw [(HE5.out.wr z).1, (HE5.out.wr z).2.1, HE5.out.ue] at HW6
      have HS6 := hid (fun W B (h : NI w W B s6) => HSB.out W s6 B h)
      rw [(HE5.out.wr y).2.2.1, (HE5.out.wr y).2.2.2] at HS6
      have HC6 := hid (fun W B (h : NI w W B s6) => h.close 2)
      rw [HE5.out.ue, HE5.out.cl] at HC6
      have HO6 := hid (fun W B (h : NI w W B s6) => h.open 2)
      rw [HE5.out.op.1, HE5.out.op.2] at HO6
      have HM6 := hid (fun W B (h : NI w W B s6) => h.moved)
      rw [HE5.out.sm] at HM6
      have HB6 := hid (fun W B (h : NI w W B s6) => h.bring (by rw [HE5.out.sm]; omega) 2 99)
      rw [HE5.out.bk, HE5.out.fe] at HB6
      have HF6 := hid (fun W B (h : NI w W B (bringS s6 2 99)) => h.fetch (by rw [HE5.out.bm]; omega) 2 99)
      rw [HE5.out.fk, HE5.out.bf] at HF6
      have HH7 := hid (fun W B (h : NI w W B (fetchS (bringS s6 2 99) 2 99)) => h.heard (by rw [HE5.out.fm]; omega) 2)
      rw [HE5.out.fh, HE5.out.fn] at HH7
      have HM7 := hid (fun W B (h : NI w W B (fetchS (bringS s6 2 99) 2 99)) => h.moved)
      rw [HE5.out.fm] at HM7
      generalize fetchS (bringS s6 2 99) 2 99 = s8 at *
      generalize bringS s6 2 99 = s7 at *
      obtain ⟨E, hE⟩ : ∃ E : Bool, ((k : Int) == (z.length : Int)) = E := ⟨_, rfl⟩
      have hE2 : (false || decide (q = 0)) = E := by
        rw [← hE, Bool.false_or]
        have h9 := hq0.out
        by_cases h0 : q = 0
        · rw [decide_eq_true h0]; symm; simp; omega
        · rw [decide_eq_false h0]; symm; simp; omega
      rw [hE2] at HHE
      clear hE2
      have e0 : (m5 : Int) + (q : Int) = ((m5 + q : Nat) : Int) := by omega
      have hmq : m5 + q ≤ 200 := by omega
      generalize m5 + q = mq at *
      go_enter Try.func3, Try.ntmps3
      go_wp2_with fail
      refine (HN.out).mono ?_
      rintro e w1 ⟨B, rfl, h1⟩
      have H1 := hid h1
      clear h1 HN
      go_wp2_with fail
      refine (HO.out _ _ H1.out).mono ?_
      rintro e w2 ⟨rfl, h1⟩
      have H2 := hid h1
      clear h1
      go_wp2_with fail
      refine (HSE.out _ _ H2.out).mono ?_
      rintro e w3 ⟨rfl, h1⟩
      have H3 := hid h1
      clear h1
      go_wp2_with fail
      refine (HBR.out _ _ H3.out).mono ?_
      rintro e w4 ⟨rfl, h1⟩
      have H4 := hid h1
      clear h1
      go_wp2_with fail
      refine (HWR.out _ _ H4.out).mono ?_
      rintro e w5 ⟨rfl, h1⟩
      have H5 := hid h1
      clear h1
      go_wp2_with fail
      refine (HFE.out _ _ H5.out).mono ?_
      rintro e w6 ⟨rfl, h1⟩
      have H6 := hid h1
      clear h1
      go_wp2_with fail
      refine (HCU.out _ _ H6.out).mono ?_
      rintro e w7 ⟨rfl, h1⟩
      have H7 := hid h1
      clear h1
      go_wp2_with fail
      refine (HIS.out _ _ H7.out).mono ?_
      rintro e w8 ⟨rfl, h1, h9⟩
      have H8 := hid h1
      clear h1 h9
      go_wp2_with fail
      refine (HUN.out _ _ H8.out).mono ?_
      rintro e w9 ⟨rfl, h1, h9⟩
      have H9 := hid h1
      clear h1 h9
      go_wp2_with fail
      refine (HHE.out _ _ H9.out).mono ?_
      rintro e w10 ⟨u, rfl, hu, h1, h9⟩
      have H10 := hid h1
      clear h1 h9
      obtain ⟨au, cu, hsu, _, _⟩ := hu.shape
      subst hsu
      have hc1 := fun n => run_str8 Try.underlying22 Try.underlying5 Try.underlying9 (bs_all (hu.fr ((Fr.refl _ (fun _ => False)).drewN n) (fun _ _ h => h)))
      have hc2 := fun n => HCV.out _ k (by have := HKK.out; exact this) (H10.out.fr.drewN n)
      have hc10 := run_str8 Try.underlying22 Try.underlying5 Try.underlying9 (bs_all hu)
      have hc20 := HCV.out _ k (by have := HKK.out; exact this) H10.out.fr
      clear hu
      generalize (z.take k).length = lu at *
      generalize str8 (z.take k) = SK at *
      have hqw : IntKind.i64.wrap ((z.length : Int) - (k : Int)) = (q : Int) := by rw [hq1]; exact wrap_fit (by unfold fits; omega)
      go_wp2_with fail
      go_quiet (fail)
      clear hc1 hc2 hc10 hc20
      have HQ := hid (H10.out.still ((Fr.refl w10 (fun _ => False)).drewN nq))
      generalize w10.drewN nq = wq at *
      go_wp2_with fail
      refine (HTK.out _ _ HQ.out).mono ?_
      rintro e w11 ⟨v2, rfl, h2, h1⟩
      have H11 := hid h1
      clear h1 h2
      go_wp2_with fail
      refine (HW6.out _ _ H11.out).mono ?_
      rintro e w12 ⟨rfl, h1⟩
      have H12 := hid h1
      clear h1
      go_wp2_with fail
      refine (HS6.out _ _ H12.out).mono ?_
      rintro e w13 ⟨rfl, h1⟩
      have H13 := hid h1
      clear h1
      go_wp2_with fail
      refine (HC6.out _ _ H13.out).mono ?_
      rintro e w14 ⟨rfl, h1⟩
      have H14 := hid h1
      clear h1
      go_wp2_with fail
      refine (HO6.out _ _ H14.out).mono ?_
      rintro e w15 ⟨rfl, h1⟩
      have H15 := hid h1
      clear h1
      go_wp2_with fail
      refine (HM6.out _ _ H15.out).mono ?_
      rintro e w16 ⟨rfl, h1, h9⟩
      have H16 := hid h1
      clear h1 h9
      go_wp2_with fail
      refine (HB6.out _ _ H16.out).mono ?_
      rintro e w17 ⟨rfl, h1⟩
      have H17 := hid h1
      clear h1
      go_wp2_with fail
      refine (HF6.out _ _ H17.out).mono ?_
      rintro e w18 ⟨rfl, h1⟩
      have H18 := hid h1
      clear h1
      go_wp2_with fail
      refine (HH7.out _ _ H18.out).mono ?_
      rintro e w19 ⟨u2, rfl, hu, h1, h9⟩
      have H19 := hid h1
      clear h1 h9
      obtain ⟨au2, cu2, hsu, _, _⟩ := hu.shape
      subst hsu
      have HHU := hid hu
      clear hu
      generalize hlu2 : (z.take (k + q)).length = lu2 at *
      have HLU0 : Hid (z.length = lu2) := by show _ = _; rw [← hlu2, hq0.out, List.take_length]
      clear hlu2
      go_wp2_with fail
      refine (HM7.out _ _ H19.out).mono ?_
      rintro e w20 ⟨rfl, h1, h9⟩
      have H20 := hid h1
      clear h1
      obtain rfl : w19 = w20 := h9.symm
      clear h9
      have hcA := run_str8 Try.underlying22 Try.underlying5 Try.underlying9 (bs_all HHU.out)
      have hcB := HCV.out w19 z.length (Nat.le_refl _) H20.out.fr
      have hcA2 := run_str8 Try.underlying22 Try.underlying5 Try.underlying9 (bs_all (HHU.out.fr (Fr.refl _ (fun _ => False)).drew (fun _ _ h => h)))
      have hcB2 := HCV.out w19.drew z.length (Nat.le_refl _) (H20.out.fr.drew)
      have HT : Hid (z.take (k + q) = z) := by show _ = _; rw [hq0.out, List.take_length]
      rw [HT.out] at hcA hcA2
      rw [List.take_length] at hcB hcB2
      have HLU : Hid (z.length = lu2) := HLU0
      rw [HLU.out] at hcA hcA2
      generalize str8 z = SZ at *
      go_wp2_with fail
      go_wp2_with fail
      refine (HCU2.out _ _ H20.out).mono ?_
      rintro e w21 ⟨rfl, h1⟩
      have H21 := hid h1
      clear h1
      go_wp2_with fail
      refine (HCU3.out _ _ H21.out).mono ?_
      rintro e w22 ⟨rfl, h1⟩
      have H22 := hid h1
      clear h1
      go_wp2_with fail
      refine (head_any _).mono ?_
      rintro e wz ⟨rfl, h1⟩
      have HZ := hid (H22.out.fr.trans h1)
      clear h1
      go_wp2_with fail
      go_ret
      exact ⟨rfl, HZ.out⟩
end Go.Proofs.Ytdkaagigbncofab
