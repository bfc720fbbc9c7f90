/- table: lay, give, mend of a row: walks. -/
import Derived.Test.YtobigmcklecbnaaTRow
namespace Go.Proofs.Ytobigmcklecbnaa
open Go.RowKit

theorem cells2 {w : World} {N : Nat} {a b : Value} {e : TypeId} (h : w.heap[N]? = some (.cells #[a, b] e (0, 0))) : w.cell? ⟨N, 0, none⟩ = some a ∧ w.cell? ⟨N, 1, none⟩ = some b := by
  refine ⟨?_, ?_⟩ <;> simp [World.cell?, h]

/-- Values of the table's type. -/
def isV (v : Value) : Prop := ∃ x : Int, v = .int .i64 x
def okP (p : Pl) : Prop := isV p.val ∧ p.key.size ≤ 9223372036854775807
def Vok (r : List Pl) : Prop := ∀ i, i < r.length → okP (at' r i)
theorem Vok.set {r : List Pl} (h : Vok r) (i : Nat) (p : Pl) (hi : i < r.length) (hp : okP p) : Vok (r.set i p) := by
  intro j hj
  rw [at_set _ _ _ _ hi]
  split
  · exact hp
  · exact h j (by simpa using hj)
theorem isV_z : isV (.int .i64 0) := by
  first
    | exact ⟨0, rfl⟩
    | exact ⟨⟨#[]⟩, rfl⟩
    | exact ⟨(none, 0, 0), rfl⟩
theorem okP_z : okP (pz (.int .i64 0)) := ⟨isV_z, Nat.zero_le _⟩
theorem okP_g : okP (pg (.int .i64 0)) := ⟨isV_z, Nat.zero_le _⟩
theorem Vok.rep (n : Nat) : Vok (List.replicate n (pz (.int .i64 0))) := by
  intro i hi
  rw [at_rep _ (by simpa using hi)]
  exact okP_z

set_option maxHeartbeats 1000000 in
set_option maxRecDepth 100000 in
theorem lay_any {g cap : Nat} {r : List Pl} {rest : List Value} (k : ByteArray) (x : Int) (w : World) (hR : RowG 77 w g r rest) (hE : Emp r) (hk : k.size ≤ 9223372036854775807) (hb : r.length ≤ 1099511627776) :
    Calls Try.prog 62 #[.slice (some ⟨g, 0, none⟩) r.length cap, .agg #[.string k, .int .i64 x]] w fun e w' => e = .returned (.tuple #[]) ∧ RowG 77 w' g (layP r k (.int .i64 x)) rest ∧ Fr w w' (fun b => b = g) := by
  have HR1 := hid (hR.fr (alloc_fr w (.cells #[.string k, .int .i64 x] 75) (fun _ => False)) (fun h => h))
  have HLk := hid (look_any (cap := cap) k _ HR1.out hE hk hb)
  have hl := (lookL_spec k hE).1
  have hgl := hR.lt
  unfold layP
  generalize (lookL r k).1 = i at *
  generalize (lookL r k).2 = there at *
  have hgn : w.heap.size ≠ g := by omega
  obtain ⟨c0, c1, c2⟩ := hR.cells i hl
  have f0 := hR.free (i * 3)
  have f1 := hR.free (i * 3 + 1)
  have f2 := hR.free (i * 3 + 2)
  have t0 : (0 : Int) ≤ (i : Int) := by omega
  have t1 : (i : Int) < (r.length : Int) := by omega
  have HL := hid hl
  have HR := hid hR
  clear hR
  go_enter Try.func62, Try.ntmps62
  go_wp2_with fail
  refine HLk.out.mono ?_
  rintro e w1 ⟨rfl, hw1⟩
  subst hw1
  go_wp2_with fail
  go_end0
  exact ⟨rfl, ((HR.out.set i HL.out ⟨1, k, .int .i64 x⟩).fr (alloc_fr _ _ (fun _ => False)) (fun h => h)), (set3_fr w g (i * 3) ⟨1, k, .int .i64 x⟩ (Fr.refl w (fun b => b = g)) (fun _ => rfl)).alloc _⟩

set_option maxHeartbeats 1000000 in
set_option maxRecDepth 100000 in
theorem give_any {g cap : Nat} {r : List Pl} {rest : List Value} (i : Nat) (w : World) (hR : RowG 77 w g r rest) (hi : i < r.length) (hV : Vok r) (_hb : r.length ≤ 1099511627776) :
    Calls Try.prog 73 #[.slice (some ⟨g, 0, none⟩) r.length cap, .int .i64 (i : Int)] w fun e w' => e = .returned (.agg #[.string (at' r i).key, (at' r i).val]) ∧ RowG 77 w' g (r.set i (pg (.int .i64 0))) rest ∧ Fr w w' (fun b => b = g) := by
  obtain ⟨⟨x, hx⟩, _⟩ := hV i hi
  obtain ⟨c0, c1, c2⟩ := hR.cells i hi
  have f0 := hR.free (i * 3)
  have f1 := hR.free (i * 3 + 1)
  have f2 := hR.free (i * 3 + 2)
  rw [hx] at c2 ⊢
  have hgl := hR.lt
  have HR := hid hR
  have HI := hid hi
  have t0 : (0 : Int) ≤ (i : Int) := by omega
  have t1 : (i : Int) < (r.length : Int) := by omega
  generalize (at' r i).key = k at *
  have hgn : w.heap.size ≠ g := by omega
  have hgn1 : w.heap.size + 1 ≠ g := by omega
  clear hV hR
  go_enter Try.func73, Try.ntmps73
  go_wp2_with fail
  refine bodyPost_ret (v := .agg #[.string k, .int .i64 x]) (by simp [results, Try.results73, go_sem]) rfl ⟨rfl, ?_⟩
  exact ⟨((HR.out.set i HI.out (pg (.int .i64 0))).fr ((alloc_fr _ _ (fun _ => False)).alloc _) (fun h => h)), ((set3_fr w g (i * 3) (pg (.int .i64 0)) (Fr.refl w (fun b => b = g)) (fun _ => rfl)).alloc _).alloc _⟩

set_option maxHeartbeats 600000 in
set_option maxRecDepth 100000 in
theorem mend_any {g cap : Nat} {r : List Pl} {rest : List Value} (i0 j : Nat) (w : World) (hR : RowG 77 w g r rest) (hi : i0 < r.length) (hj : j < r.length) (hj0 : (at' r j).st = 0) (hij : j ≠ i0) (hV : Vok r) (hb : r.length ≤ 1099511627776) :
    Calls Try.prog 74 #[.slice (some ⟨g, 0, none⟩) r.length cap, .int .i64 (i0 : Int)] w fun e w' => e = .returned (.tuple #[]) ∧ RowG 77 w' g (mendL (.int .i64 0) r i0) rest ∧ Vok (mendL (.int .i64 0) r i0) ∧ Fr w w' (fun b => b = g) := by
  obtain ⟨c0, c1, c2⟩ := hR.cells i0 hi
  have f0 := hR.free (i0 * 3)
  have f1 := hR.free (i0 * 3 + 1)
  have f2 := hR.free (i0 * 3 + 2)
  have hgl := hR.lt
  have t0 : (0 : Int) ≤ (i0 : Int) := by omega
  have t1 : (i0 : Int) < (r.length : Int) := by omega
  have HR0 := hid (hR.set i0 hi (pz (.int .i64 0)))
  have HF0 := hid (set3_fr w g (i0 * 3) (pz (.int .i64 0)) (Fr.refl w (fun b => b = g)) (fun _ => rfl))
  have HV0 := hid (hV.set i0 (pz (.int .i64 0)) hi okP_z)
  have HJ0 := hid (show (at' (r.set i0 (pz (.int .i64 0))) j).st = 0 by rw [at_set _ _ _ _ hi, if_neg (fun e => hij e.symm)]; exact hj0)
  have HD := hid (ds_lt (nx_lt hi) hj)
  have hn := nx_lt hi
  have HIJ := hid hij
  have HJ := hid hj
  have HI := hid hi
  have HX := hid (fun W => next_any g cap r.length i0 W hi hb)
  unfold set3 pz at HR0 HF0
  dsimp only at HR0 HF0
  clear hV hR hij hj0 hj
  go_enter Try.func74, Try.ntmps74
  go_wp2_with fail
  refine (HX.out _).mono ?_
  rintro e w1 ⟨rfl, hw1⟩
  have HR1 : Hid (RowG 77 w1 g (r.set i0 (pz (.int .i64 0))) rest) := by rw [hw1]; exact HR0
  have HF1 : Hid (Fr w w1 (fun b => b = g)) := by rw [hw1]; exact HF0
  clear hw1 c0 c1 c2 f0 f1 f2 HR0 HF0 t0 t1
  go_wp2_with fail
  go_loopg [1, 4] r.length (fun gk s1 s4 wx => ∃ (i k : Nat) (R : List Pl), s1 = .int .i64 (i : Int) ∧ s4 = .int .i64 (k : Int) ∧ i < r.length ∧ k < r.length ∧ Hid (R.length = r.length) ∧ Hid (mendF (.int .i64 0) gk R i k = mendL (.int .i64 0) r i0) ∧ Hid (ds r.length k j < gk) ∧ Hid (j ≠ i) ∧ Hid ((at' R i).st = 0) ∧ Hid ((at' R j).st = 0) ∧ Hid (Vok R) ∧ Hid (RowG 77 wx g R rest) ∧ Hid (Fr w wx (fun b => b = g)))
  case atStart => exact ⟨i0, nx r.length i0, _, rfl, rfl, hi, hn, by show (r.set i0 (pz (.int .i64 0))).length = _; simp, by show mendF _ _ _ _ _ = mendL _ r i0; rfl, HD, HIJ, by show (at' (r.set i0 (pz (.int .i64 0))) i0).st = 0; rw [at_set _ _ _ _ hi, if_pos rfl]; rfl, HJ0, HV0, HR1, HF1⟩
  case round =>
    obtain ⟨i, k, R, rfl, rfl, hi, hk, HLen, HMd, HDs, HIj, HRi, HRj, HV, HR, HF⟩ := hrel
    clear HR1 HF1 HD HIJ HJ0 HV0 HX
    have t2 : (0 : Int) ≤ (k : Int) := by omega
    have t3 : (k : Int) < (r.length : Int) := by omega
    have hkR : k < R.length := by rw [HLen.out]; exact hk
    have hiR : i < R.length := by rw [HLen.out]; exact hi
    obtain ⟨c0, c1, c2⟩ := HR.out.cells k hkR
    have hglr := HR.out.lt
    cases gk with
    | zero => exact absurd HDs.out (Nat.not_lt_zero _)
    | succ f =>
      by_cases h0 : (at' R k).st = 0
      · have HE : Hid (R = mendL (.int .i64 0) r i0) := by
          have := HMd.out
          unfold mendF at this
          rw [if_pos h0] at this
          exact this
        rw [h0] at c0
        clear h0 c1 c2
        go_wp2_with fail
        go_end0
        rw [← HE.out]
        exact ⟨rfl, HR.out, HV.out, HF.out⟩
      · obtain ⟨⟨x, hx⟩, hks⟩ := HV.out k hkR
        have HOk := hid (HV.out k hkR)
        have HHm := hid (fun W => home_any g cap R (at' R k).key W hks (by omega) (by rw [HLen.out]; exact hb))
        rw [HLen.out] at HHm
        have hhm : homeL R (at' R k).key < r.length := by have := homeL_lt (r := R) (at' R k).key (by omega); rw [HLen.out] at this; exact this
        have hkj : k ≠ j := by rintro rfl; exact h0 HRj.out
        have HN := hid (ds_nx hk HJ.out hkj)
        have HW1 := hid (fun W => way_any g cap r.length _ k W hhm hk hb)
        have HW2 := hid (fun W => way_any g cap r.length i k W hi hk hb)
        have HX := hid (fun W => next_any g cap r.length k W hk hb)
        have t4 : (((at' R k).st : Int) == 0) = false := by simp; exact h0
        rw [hx] at c2
        by_cases hc : ds r.length (homeL R (at' R k).key) k < ds r.length i k
        · have HM2 : Hid (mendF (.int .i64 0) f R i (nx r.length k) = mendL (.int .i64 0) r i0) := by
            have := HMd.out
            unfold mendF at this
            rw [if_neg h0, HLen.out, if_pos hc] at this
            exact this
          have t5 : (ds r.length (homeL R (at' R k).key) k : Int) < (ds r.length i k : Int) := by omega
          clear h0 hc
          generalize homeL R (at' R k).key = hm at *
          generalize (at' R k).key = key at *
          generalize (at' R k).st = st at *
          go_wp2_with fail
          refine (HHm.out _).mono ?_
          rintro e w1 ⟨rfl, hw1⟩
          have hw1 := hw1.symm
          subst hw1
          go_wp2_with fail
          refine (HW1.out _).mono ?_
          rintro e w1 ⟨rfl, hw1⟩
          have hw1 := hw1.symm
          subst hw1
          go_wp2_with fail
          refine (HW2.out _).mono ?_
          rintro e w1 ⟨rfl, hw1⟩
          have hw1 := hw1.symm
          subst hw1
          go_wp2_with fail
          refine (HX.out _).mono ?_
          rintro e w1 ⟨rfl, hw1⟩
          have hw1 := hw1.symm
          subst hw1
          go_wp2_with fail
          go_roundg f
          case measure => omega
          case rel => exact ⟨i, nx r.length k, R, rfl, rfl, hi, nx_lt hk, HLen, HM2, by have h5 := HN.out; have h6 := HDs.out; show ds r.length (nx r.length k) j < f; omega, HIj, HRi, HRj, HV, HR, HF⟩
        · have HM2 : Hid (mendF (.int .i64 0) f ((R.set i (at' R k)).set k (pz (.int .i64 0))) k (nx r.length k) = mendL (.int .i64 0) r i0) := by
            have := HMd.out
            unfold mendF at this
            rw [if_neg h0, HLen.out, if_neg hc] at this
            exact this
          have t5 : ¬ (ds r.length (homeL R (at' R k).key) k : Int) < (ds r.length i k : Int) := by omega
          have t6 : (0 : Int) ≤ (i : Int) := by omega
          have t7 : (i : Int) < (r.length : Int) := by omega
          have HKI : Hid (k ≠ i) := by rintro rfl; exact h0 HRi.out
          have HKJ := hid (show j ≠ k from fun e => hkj e.symm)
          have HP : Hid (at' R k = ⟨(at' R k).st, (at' R k).key, .int .i64 x⟩) := by
            show at' R k = _
            rw [← hx]
          clear h0 hc hkj hx
          generalize homeL R (at' R k).key = hm at *
          generalize hp : at' R k = p at c0 c1 t4 HHm HP HOk
          have HPP := hid hp
          clear hp
          obtain ⟨st, key, val⟩ := p
          dsimp only at c0 c1 t4 HHm HP
          go_wp2_with fail
          refine (HHm.out _).mono ?_
          rintro e w1 ⟨rfl, hw1⟩
          have hw1 := hw1.symm
          subst hw1
          go_wp2_with fail
          refine (HW1.out _).mono ?_
          rintro e w1 ⟨rfl, hw1⟩
          have hw1 := hw1.symm
          subst hw1
          go_wp2_with fail
          refine (HW2.out _).mono ?_
          rintro e w1 ⟨rfl, hw1⟩
          have hw1 := hw1.symm
          subst hw1
          have n00 : (k * 3 = i * 3) = False := by have := HKI.out; apply eq_false; omega
          have m00 : (i * 3 = k * 3) = False := by have := HKI.out; apply eq_false; omega
          have n10 : (k * 3 + 1 = i * 3) = False := by have := HKI.out; apply eq_false; omega
          have m01 : (i * 3 = k * 3 + 1) = False := by have := HKI.out; apply eq_false; omega
          have n20 : (k * 3 + 2 = i * 3) = False := by have := HKI.out; apply eq_false; omega
          have m02 : (i * 3 = k * 3 + 2) = False := by have := HKI.out; apply eq_false; omega
          have n01 : (k * 3 = i * 3 + 1) = False := by have := HKI.out; apply eq_false; omega
          have m10 : (i * 3 + 1 = k * 3) = False := by have := HKI.out; apply eq_false; omega
          have n11 : (k * 3 + 1 = i * 3 + 1) = False := by have := HKI.out; apply eq_false; omega
          have m11 : (i * 3 + 1 = k * 3 + 1) = False := by have := HKI.out; apply eq_false; omega
          have n21 : (k * 3 + 2 = i * 3 + 1) = False := by have := HKI.out; apply eq_false; omega
          have m12 : (i * 3 + 1 = k * 3 + 2) = False := by have := HKI.out; apply eq_false; omega
          have n02 : (k * 3 = i * 3 + 2) = False := by have := HKI.out; apply eq_false; omega
          have m20 : (i * 3 + 2 = k * 3) = False := by have := HKI.out; apply eq_false; omega
          have n12 : (k * 3 + 1 = i * 3 + 2) = False := by have := HKI.out; apply eq_false; omega
          have m21 : (i * 3 + 2 = k * 3 + 1) = False := by have := HKI.out; apply eq_false; omega
          have n22 : (k * 3 + 2 = i * 3 + 2) = False := by have := HKI.out; apply eq_false; omega
          have m22 : (i * 3 + 2 = k * 3 + 2) = False := by have := HKI.out; apply eq_false; omega
          obtain ⟨d0, d1, d2⟩ := HR.out.cells i hiR
          have f0 := HR.out.free (i * 3)
          have f1 := HR.out.free (i * 3 + 1)
          have f2 := HR.out.free (i * 3 + 2)
          have e0 := HR.out.free (k * 3)
          have e1 := HR.out.free (k * 3 + 1)
          have e2 := HR.out.free (k * 3 + 2)
          go_wp2_with fail
          refine (HX.out _).mono ?_
          rintro e w1 ⟨rfl, hw1⟩
          have HPk : Hid (at' R k = ⟨st, key, .int .i64 x⟩) := HPP.out.trans HP.out
          have HA := hid (HR.out.set i hiR ⟨st, key, .int .i64 x⟩)
          have HB : Hid (RowG 77 w1 g ((R.set i ⟨st, key, .int .i64 x⟩).set k (pz (.int .i64 0))) rest) := by
            rw [hw1]
            exact HA.out.set k (by simpa using hkR) (pz (.int .i64 0))
          have HFB : Hid (Fr w w1 (fun b => b = g)) := by
            rw [hw1]
            exact set3_fr _ g (k * 3) (pz (.int .i64 0)) (set3_fr wr g (i * 3) ⟨st, key, .int .i64 x⟩ HF.out (fun _ => rfl)) (fun _ => rfl)
          have HVB := hid ((HV.out.set i (at' R k) hiR (HV.out k hkR)).set k (pz (.int .i64 0)) (by simpa using hkR) okP_z)
          have HRB := hid (show (at' ((R.set i (at' R k)).set k (pz (.int .i64 0))) j).st = 0 by
            rw [at_set _ _ _ _ (by simpa using hkR), if_neg (fun e => HKJ.out e.symm), at_set _ _ _ _ hiR, if_neg (fun e => HIj.out e.symm)]; exact HRj.out)
          have HRk := hid (show (at' ((R.set i (at' R k)).set k (pz (.int .i64 0))) k).st = 0 by
            rw [at_set _ _ _ _ (by simpa using hkR), if_pos rfl]; rfl)
          have HLB := hid (show ((R.set i (at' R k)).set k (pz (.int .i64 0))).length = r.length by simpa using HLen.out)
          rw [← HPk.out] at HB
          clear hw1 HA n00 m00 n10 m01 n20 m02 n01 m10 n11 m11 n21 m12 n02 m20 n12 m21 n22 m22 d0 d1 d2 f0 f1 f2 e0 e1 e2 c0 c1 c2
          go_wp2_with fail
          go_roundg f
          case measure => omega
          case rel => exact ⟨k, nx r.length k, (R.set i (at' R k)).set k (pz (.int .i64 0)), rfl, rfl, hk, nx_lt hk, HLB, HM2, by have h5 := HN.out; have h6 := HDs.out; show ds r.length (nx r.length k) j < f; omega, HKJ, HRk, HRB, HVB, HB, HFB⟩
end Go.Proofs.Ytobigmcklecbnaa
