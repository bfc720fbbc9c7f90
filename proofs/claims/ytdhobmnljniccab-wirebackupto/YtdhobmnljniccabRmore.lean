/- Reader.Left, End, Int, Err with a fault: walks; and that what is read is what is written. -/
import Derived.Test.YtdhobmnljniccabRnum
namespace Go.Proofs.Ytdhobmnljniccab
open Go.RowKit

theorem hid2 {p : Prop} (h : p) : Hid p := h

def leftN (xs : List Nat) (p : Nat) (en : Int) : Nat := if en = 0 then xs.length - p else 0

theorem Rd.drewN {w : World} {base R : Nat} {v : Value} {xs : List Nat} {p : Nat} {en on : Int} (h : Rd w base R v xs p en on) (n : Nat) : Rd (w.drewN n) base R v xs p en on := (rd_drew h n).1

set_option maxHeartbeats 800000 in
set_option maxRecDepth 100000 in
theorem left_any (base R : Nat) (v : Value) (xs : List Nat) (p : Nat) (en on : Int) (w : World) (h : Rd w base R v xs p en on) (hp : p ≤ xs.length) (hx : xs.length ≤ 140737488355328) :
    Calls Try.prog 36 #[.pointer (some ⟨R, 0, none⟩)] w fun e w' => e = .returned (.int .i64 (leftN xs p en : Int)) ∧ ∃ n, w' = w.drewN n := by
  obtain ⟨ao, cap, rfl⟩ := own_nil_shape h.own
  obtain ⟨c0, c1, c2, c3⟩ := four_cells h.cell
  have H := hid2 h
  clear h c3
  by_cases he : en = 0
  · subst he
    have HP : Hid ((leftN xs p 0 : Int) = (xs.length : Int) - (p : Int)) := by
      show (leftN xs p 0 : Int) = (xs.length : Int) - (p : Int)
      rw [leftN, if_pos rfl]
      omega
    go_enter Try.func36, Try.ntmps36
    go_wp2_with (go_at_call 40; refine (failed_any base R _ xs p 0 on _ H.out).mono ?_; rintro e w1 ⟨rfl, hw1⟩; have hw1 := hw1.symm; subst hw1)
    go_quiet (fail)
    go_wp2
    go_ret
    exact ⟨by rw [HP.out]; rfl, _, rfl⟩
  · have HP : Hid ((leftN xs p en : Int) = 0) := by
      show (leftN xs p en : Int) = 0
      rw [leftN, if_neg he]
      rfl
    have he' : (en != 0) = true := by simpa using he
    clear he
    go_enter Try.func36, Try.ntmps36
    go_wp2_with (go_at_call 40; refine (failed_any base R _ xs p en on _ H.out).mono ?_; rintro e w1 ⟨rfl, hw1⟩; have hw1 := hw1.symm; subst hw1)
    go_ret
    exact ⟨by rw [HP.out]; rfl, 0, rfl⟩

/-- What End leaves. -/
def endE (xs : List Nat) (p : Nat) (en : Int) : Int := if en = 0 ∧ p < xs.length then 13 else en
def endO (xs : List Nat) (p : Nat) (en on : Int) : Int := if en = 0 ∧ p < xs.length then (p : Int) else on

set_option maxHeartbeats 800000 in
set_option maxRecDepth 100000 in
theorem end_any (base R : Nat) (v : Value) (xs : List Nat) (p : Nat) (en on : Int) (w : World) (h : Rd w base R v xs p en on) (hp : p ≤ xs.length) (hx : xs.length ≤ 140737488355328) :
    Calls Try.prog 17 #[.pointer (some ⟨R, 0, none⟩)] w fun e w' => e = .returned (.tuple #[]) ∧ RdPost w base R v xs p (endE xs p en) (endO xs p en on) w' := by
  obtain ⟨c0, c1, c2, c3⟩ := four_cells h.cell
  have H := hid2 h
  clear h c0 c2 c3
  by_cases hc : en = 0 ∧ p < xs.length
  · obtain ⟨rfl, hlt⟩ := hc
    have hl : (0 : Int) < (leftN xs p 0 : Int) := by rw [leftN, if_pos rfl]; omega
    have HP : Hid (endE xs p 0 = fEn 0 13 ∧ endO xs p 0 on = fOn 0 13 on (p : Int)) := by
      show endE xs p 0 = fEn 0 13 ∧ endO xs p 0 on = fOn 0 13 on (p : Int)
      simp [endE, endO, fEn, fOn, hlt]
    go_enter Try.func17, Try.ntmps17
    go_wp2_with fail
    refine (left_any base R v xs p 0 on w H.out hp hx).mono ?_
    rintro e w1 ⟨rfl, n1, rfl⟩
    generalize leftN xs p 0 = q at hl ⊢
    go_wp2_with fail
    refine (fail_any base R v xs p 0 on 13 (p : Int) _ (H.out.drewN n1)).mono ?_
    rintro e w2 ⟨rfl, hw2⟩
    have HW := hid2 hw2.drew
    clear hw2
    go_wp2
    go_end0
    rw [HP.out.1, HP.out.2]
    exact ⟨rfl, HW.out⟩
  · have hl : leftN xs p en = 0 := by
      rw [leftN]
      by_cases he : en = 0
      · rw [if_pos he]
        omega
      · rw [if_neg he]
    have HP : Hid (endE xs p en = en ∧ endO xs p en on = on) := by
      show endE xs p en = en ∧ endO xs p en on = on
      rw [endE, endO, if_neg hc, if_neg hc]
      exact ⟨rfl, rfl⟩
    clear hc
    go_enter Try.func17, Try.ntmps17
    go_wp2_with fail
    refine (left_any base R v xs p en on w H.out hp hx).mono ?_
    rintro e w1 ⟨rfl, n1, rfl⟩
    rw [hl]
    go_wp2
    go_end0
    rw [HP.out.1, HP.out.2]
    exact ⟨rfl, rd_drew H.out n1⟩

theorem rb_lt64 (xs : List Nat) (p f k u : Nat) (hkf : k + f ≤ 10) (hu : k ≤ 9 → u < 128 ^ k) : (rb xs p f k u).2.2.1 < 18446744073709551616 := by
  induction f generalizing k u with
  | zero => exact (by decide : 0 < 18446744073709551616)
  | succ f ih =>
    have h2 := or_sevens_lt u (xs.getD (p + k) 0 % 128) k (by omega) (hu (by omega))
    rw [rb]
    split
    · exact (by decide : 0 < 18446744073709551616)
    · split
      · exact ih (k + 1) _ (by omega) (fun _ => or_sevens_lt2 u _ k (Nat.mod_lt _ (by decide)) (hu (by omega)))
      · split
        · exact h2
        · exact (by decide : 0 < 18446744073709551616)

/-- What Int tells of the number. -/
def zag (u : Nat) : Int := if u % 2 = 0 then (u / 2 : Nat) else -((u / 2 : Nat) : Int) - 1
theorem zig_zag (u : Nat) : zig (zag u) = u := by
  unfold zag zig
  split
  · rw [if_pos (by omega)]
    omega
  · rw [if_neg (by omega)]
    omega
theorem zag_bd (u : Nat) (h : u < 18446744073709551616) : -9223372036854775808 ≤ zag u ∧ zag u ≤ 9223372036854775807 := by
  unfold zag
  split <;> omega

theorem xor_i64_ones (x : Nat) (h : x < 9223372036854775808) : Go.bits .xor .i64 (x : Int) (-1) = -(x : Int) - 1 := by
  have e : (BitVec.ofInt 64 (x : Int) ^^^ BitVec.ofInt 64 (-1)).toNat = 18446744073709551615 - x := by
    rw [show BitVec.ofInt 64 (-1) = BitVec.allOnes 64 from by decide, BitVec.xor_allOnes, BitVec.toNat_not, BitVec.ofInt_natCast, BitVec.toNat_ofNat]
    omega
  show IntKind.i64.wrap (((BitVec.ofInt 64 (x : Int) ^^^ BitVec.ofInt 64 (-1)).toNat : Nat) : Int) = _
  rw [e, IntKind.wrap_i64]
  omega
theorem xor_i64_zero (x : Nat) (h : x < 9223372036854775808) : Go.bits .xor .i64 (x : Int) 0 = (x : Int) := by
  have e : (BitVec.ofInt 64 (x : Int) ^^^ BitVec.ofInt 64 0).toNat = x := by
    rw [show BitVec.ofInt 64 0 = 0#64 from by decide, BitVec.xor_zero, BitVec.ofInt_natCast, BitVec.toNat_ofNat]
    omega
  show IntKind.i64.wrap (((BitVec.ofInt 64 (x : Int) ^^^ BitVec.ofInt 64 0).toNat : Nat) : Int) = _
  rw [e, IntKind.wrap_i64]
  omega
theorem zag_walk (u : Nat) (h : u < 18446744073709551616) : Go.bits .xor .i64 ((u : Int) / 2) (wrap64 (-wrap64 (Go.bits .and .u64 (u : Int) 1))) = zag u := by
  have e1 : Go.bits .and .u64 (u : Int) 1 = ((u % 2 : Nat) : Int) := by
    have := bits_and_u64_nat u 1 h (by decide)
    rw [Nat.and_one_is_mod] at this
    exact this
  have e2 : ((u : Int) / 2) = ((u / 2 : Nat) : Int) := by omega
  rw [e1, e2]
  unfold zag
  split
  · rename_i h0
    rw [h0, show wrap64 (-wrap64 ((0 : Nat) : Int)) = 0 from by unfold wrap64; omega, xor_i64_zero _ (by omega)]
  · rename_i h0
    rw [show u % 2 = 1 from by omega, show wrap64 (-wrap64 ((1 : Nat) : Int)) = -1 from by unfold wrap64; omega, xor_i64_ones _ (by omega)]

set_option maxHeartbeats 800000 in
set_option maxRecDepth 100000 in
theorem rint_any (base R : Nat) (v : Value) (xs : List Nat) (p : Nat) (on : Int) (w : World) (h : Rd w base R v xs p 0 on) (hp : p ≤ xs.length) (hx : xs.length ≤ 140737488355328) (hb8 : ∀ j, xs.getD j 0 < 256) :
    Calls Try.prog 23 #[.pointer (some ⟨R, 0, none⟩)] w fun e w' => e = .returned (.int .i64 (zag (rb xs p 10 0 0).2.2.1)) ∧ RdPost w base R v xs (rb xs p 10 0 0).2.2.2 ((rb xs p 10 0 0).1 : Int) (rOn on (rb xs p 10 0 0)) w' := by
  have hlt := rb_lt64 xs p 10 0 0 (by omega) (fun _ => by decide)
  have HB : Hid (Calls Try.prog 41 #[.pointer (some ⟨R, 0, none⟩), .int .i64 ((10 : Nat) : Int)] w fun e w' => RbPost w base R v xs on (rb xs p 10 0 0) e w') := rbits_any base R v xs p 10 on w h hp hx (by omega) hb8
  clear h
  generalize rb xs p 10 0 0 = r at *
  obtain ⟨r0, r1, r2, r3⟩ := r
  simp only at hlt
  have hr2 : (r2 : Int) ≤ 18446744073709551615 := by omega
  go_enter Try.func23, Try.ntmps23
  go_wp2_with fail
  refine HB.out.mono ?_
  rintro e w1 ⟨rfl, hw1⟩
  have HW := hid2 hw1
  clear hw1
  have HZ := hid2 (zag_walk r2 hlt)
  go_wp2
  go_ret
  exact ⟨congrArg (fun x => Ending.returned (.int .i64 x)) HZ.out, HW.out⟩

set_option maxHeartbeats 800000 in
set_option maxRecDepth 100000 in
theorem err_bad (base R : Nat) (v : Value) (xs : List Nat) (p : Nat) (en on : Int) (w : World) (h : Rd w base R v xs p en on) (he : en ≠ 0) :
    Calls Try.prog 20 #[.pointer (some ⟨R, 0, none⟩)] w fun e w' => e = .returned (.iface 81 (.pointer (some ⟨w.heap.size, 0, none⟩))) ∧ w'.heap[w.heap.size]? = some (.cells #[.int .i64 en, .int .i64 on] 73 (0, 0)) ∧ Fr w w' (fun _ => False) := by
  obtain ⟨c0, c1, c2, c3⟩ := four_cells h.cell
  have he' : (en != 0) = true := by simpa using he
  have H := hid2 h
  clear h c0 c1 he
  go_enter Try.func20, Try.ntmps20
  go_wp2_with (go_at_call 40; refine (failed_any base R _ xs p en on _ H.out).mono ?_; rintro e w1 ⟨rfl, hw1⟩; have hw1 := hw1.symm; subst hw1)
  go_ret
  exact ⟨rfl, heap_alloc_new w _, alloc_fr w _ _⟩

/-- Bytes that are read without a fault are the ones that are written of the number. -/
theorem rb_back (xs : List Nat) (p f k u n q : Nat) (hb : ∀ j, xs.getD j 0 < 256) (hkf : k + f ≤ 10) (hu : k ≤ 9 → u < 128 ^ k) (hk : k ≤ xs.length - p) (hp : p ≤ xs.length) (h : rb xs p f k u = (0, 0, n, q)) :
    ∃ m, n = u + m * 128 ^ k ∧ sev (9 - k) m = (xs.drop (p + k)).take (q - (p + k)) ∧ p + k < q ∧ q ≤ xs.length ∧ (0 < k → m ≠ 0) := by
  induction f generalizing k u with
  | zero => simp [rb] at h
  | succ f ih =>
    have hbk := hb (p + k)
    by_cases hcut : k = xs.length - p
    · rw [rb_cut _ _ _ _ _ hcut] at h
      simp at h
    · have hlt : p + k < xs.length := by omega
      have hdrop : xs.drop (p + k) = xs.getD (p + k) 0 :: xs.drop (p + k + 1) := by
        rw [List.drop_eq_getElem_cons hlt]
        simp [List.getD, List.getElem?_eq_getElem hlt]
      by_cases hm : 128 ≤ xs.getD (p + k) 0
      · rw [rb_more xs p f k u _ rfl (by omega) hm] at h
        have hk9 : k ≤ 8 := by
          rcases Nat.lt_or_ge k 9 with h9 | h9
          · omega
          · obtain rfl : f = 0 := by omega
            simp [rb] at h
        have hmod : xs.getD (p + k) 0 % 128 * 128 ^ k % 18446744073709551616 = xs.getD (p + k) 0 % 128 * 128 ^ k := by
          refine Nat.mod_eq_of_lt ?_
          have h1 : xs.getD (p + k) 0 % 128 * 128 ^ k ≤ 127 * 128 ^ 8 := Nat.mul_le_mul (by omega) (Nat.pow_le_pow_right (by decide) hk9)
          have h2 : 127 * 128 ^ 8 < 18446744073709551616 := by decide
          omega
        obtain ⟨m, e1, e2, e3, e4, e5⟩ := ih (k + 1) _ (by omega) (fun _ => or_sevens_lt2 u _ k (Nat.mod_lt _ (by decide)) (hu (by omega))) (by omega) h
        have hm0 : m ≠ 0 := e5 (by omega)
        refine ⟨xs.getD (p + k) 0 % 128 + 128 * m, ?_, ?_, by omega, e4, fun _ => by omega⟩
        · rw [e1, hmod, Nat.pow_succ, Nat.add_mul]
          have : m * (128 ^ k * 128) = 128 * m * 128 ^ k := by
            rw [Nat.mul_comm (128 ^ k) 128, ← Nat.mul_assoc, Nat.mul_comm m 128]
          omega
        · rw [show 9 - k = (9 - (k + 1)) + 1 from by omega, sev_more _ _ (by omega), show (xs.getD (p + k) 0 % 128 + 128 * m) / 128 = m from by omega, e2,
            show (xs.getD (p + k) 0 % 128 + 128 * m) % 128 + 128 = xs.getD (p + k) 0 from by omega, hdrop,
            show q - (p + k) = (q - (p + (k + 1))) + 1 from by omega, List.take_succ_cons]
          rfl
      · cases hl : lastOk (xs.getD (p + k) 0) k
        · rw [rb_bad xs p f k u _ rfl (by omega) (by omega) hl] at h
          simp at h
        · rw [rb_good xs p f k u _ rfl (by omega) (by omega) hl] at h
          simp only [Prod.mk.injEq, true_and] at h
          obtain ⟨rfl, rfl⟩ := h
          have hb1 : k = 9 → xs.getD (p + k) 0 = 1 := by
            intro h9
            subst h9
            simpa [lastOk] using hl
          have hmod : xs.getD (p + k) 0 % 128 * 128 ^ k % 18446744073709551616 = xs.getD (p + k) 0 * 128 ^ k := by
            rw [Nat.mod_eq_of_lt (show xs.getD (p + k) 0 < 128 by omega)]
            refine Nat.mod_eq_of_lt ?_
            rcases Nat.lt_or_ge k 9 with h9 | h9
            · have h1 : xs.getD (p + k) 0 * 128 ^ k ≤ 127 * 128 ^ 8 := Nat.mul_le_mul (by omega) (Nat.pow_le_pow_right (by decide) (by omega))
              have h2 : 127 * 128 ^ 8 < 18446744073709551616 := by decide
              omega
            · obtain rfl : k = 9 := by omega
              rw [hb1 rfl]
              decide
          refine ⟨xs.getD (p + k) 0, by rw [hmod], ?_, by omega, by omega, ?_⟩
          · rw [sev_last _ _ (by omega), hdrop, show p + k + 1 - (p + k) = 1 from by omega]
            rfl
          · intro hk0
            unfold lastOk at hl
            rw [if_neg (by omega)] at hl
            split at hl
            · simp at hl
              omega
            · simpa using hl
theorem rb_one (xs : List Nat) (f n : Nat) (hf : f ≤ 10) (hb : ∀ j, xs.getD j 0 < 256) (h : rb xs 0 f 0 0 = (0, 0, n, xs.length)) : sev 9 n = xs := by
  obtain ⟨m, e1, e2, _, _, _⟩ := rb_back xs 0 f 0 0 n xs.length hb (by omega) (fun _ => by decide) (Nat.zero_le _) (Nat.zero_le _) h
  simp at e1 e2
  rw [e1, e2]
theorem rb_fst (xs : List Nat) (p f k u : Nat) (h : (rb xs p f k u).1 = 0) : (rb xs p f k u).2.1 = 0 := by
  induction f generalizing k u with
  | zero => simp [rb] at h
  | succ f ih =>
    rw [rb] at h ⊢
    split
    · rename_i hk
      rw [if_pos hk] at h
      simp at h
    · rename_i hk
      rw [if_neg hk] at h
      split
      · rename_i hm
        rw [if_pos hm] at h
        exact ih _ _ h
      · rename_i hm
        rw [if_neg hm] at h
        split
        · rfl
        · rename_i hl
          rw [if_neg hl] at h
          simp at h

end Go.Proofs.Ytdhobmnljniccab
