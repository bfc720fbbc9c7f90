/- Reader.Num, Read, Err: walks. -/
import Derived.Test.YtmadlmbpgkifoabRbits
namespace Go.Proofs.Ytmadlmbpgkifoab
open Go.RowKit

theorem rb_lt (xs : List Nat) (p f k u : Nat) (hkf : k + f ≤ 9) (hu : u < 128 ^ k) : (rb xs p f k u).2.2.1 < 128 ^ 9 := by
  induction f generalizing k u with
  | zero => exact Nat.pow_pos (by decide)
  | succ f ih =>
    rw [rb]
    split
    · exact Nat.pow_pos (by decide)
    · have h2 := or_sevens_lt2 u (xs.getD (p + k) 0 % 128) k (Nat.mod_lt _ (by decide)) hu
      split
      · exact ih (k + 1) _ (by omega) h2
      · split
        · exact Nat.lt_of_lt_of_le h2 (Nat.pow_le_pow_right (by decide) (by omega))
        · exact Nat.pow_pos (by decide)

theorem rb_fault (xs : List Nat) (p f k u : Nat) (h : (rb xs p f k u).1 ≠ 0) : (rb xs p f k u).2.2.1 = 0 ∧ (rb xs p f k u).2.2.2 = p := by
  induction f generalizing k u with
  | zero => exact ⟨rfl, rfl⟩
  | succ f ih =>
    rw [rb] at h ⊢
    split
    · exact ⟨rfl, rfl⟩
    · rename_i hk
      rw [if_neg hk] at h
      split
      · rename_i hm
        rw [if_pos hm] at h
        exact ih _ _ h
      · rename_i hm
        rw [if_neg hm] at h
        split
        · rename_i hl
          rw [if_pos hl] at h
          simp at h
        · exact ⟨rfl, rfl⟩

theorem rb_place (xs : List Nat) (p f k u : Nat) (hp : p ≤ xs.length) (hk : k ≤ xs.length - p) : p ≤ (rb xs p f k u).2.2.2 ∧ (rb xs p f k u).2.2.2 ≤ xs.length := by
  induction f generalizing k u with
  | zero => exact ⟨Nat.le_refl _, hp⟩
  | succ f ih =>
    rw [rb]
    split
    · exact ⟨Nat.le_refl _, hp⟩
    · split
      · exact ih (k + 1) _ (by omega)
      · split
        · constructor
          · show p ≤ p + k + 1
            omega
          · show p + k + 1 ≤ xs.length
            omega
        · exact ⟨Nat.le_refl _, hp⟩

/-- What Num tells of what was read, its fault, that one's place. -/
def rnV (most : Int) (r : Nat × Nat × Nat × Nat) : Int := if r.1 = 0 ∧ (r.2.2.1 : Int) ≤ most then (r.2.2.1 : Int) else 0
def rnE (most : Int) (r : Nat × Nat × Nat × Nat) : Int := if r.1 ≠ 0 then (r.1 : Int) else if (r.2.2.1 : Int) ≤ most then 0 else 16
def rnO (on : Int) (p : Nat) (most : Int) (r : Nat × Nat × Nat × Nat) : Int := if r.1 ≠ 0 then (r.2.1 : Int) else if (r.2.2.1 : Int) ≤ most then on else (p : Int)

theorem RdPost.trans {w w1 w2 : World} {base R : Nat} {v : Value} {xs : List Nat} {p q : Nat} {en on en' on' : Int} (h : RdPost w base R v xs p en on w1) (k : RdPost w1 base R v xs q en' on' w2) : RdPost w base R v xs q en' on' w2 := ⟨k.1, h.2.trans k.2⟩

set_option maxHeartbeats 800000 in
set_option maxRecDepth 100000 in
theorem rnum_any (base R : Nat) (v : Value) (xs : List Nat) (p : Nat) (on most : Int) (w : World) (h : Rd w base R v xs p 0 on) (hp : p ≤ xs.length) (hx : xs.length ≤ 140737488355328) (hb8 : ∀ j, xs.getD j 0 < 256) :
    Calls Try.prog 22 #[.pointer (some ⟨R, 0, none⟩), .int .i64 most] w fun e w' => e = .returned (.int .i64 (rnV most (rb xs p 9 0 0))) ∧ RdPost w base R v xs (rb xs p 9 0 0).2.2.2 (rnE most (rb xs p 9 0 0)) (rnO on p most (rb xs p 9 0 0)) w' := by
  obtain ⟨c0, c1, c2, c3⟩ := four_cells h.cell
  have hlt := rb_lt xs p 9 0 0 (by omega) (by decide)
  have hfa := rb_fault xs p 9 0 0
  have Hb := rbits_any base R v xs p 9 on w h hp hx (by omega) hb8
  have HB : Hid (Calls Try.prog 41 #[.pointer (some ⟨R, 0, none⟩), .int .i64 ((9 : Nat) : Int)] w fun e w' => RbPost w base R v xs on (rb xs p 9 0 0) e w') := Hb
  clear Hb h
  generalize rb xs p 9 0 0 = r at *
  obtain ⟨r0, r1, r2, r3⟩ := r
  have hr2 : (r2 : Int) ≤ 9223372036854775807 := by simp at hlt; omega
  have HF : Hid (r0 ≠ 0 → r2 = 0 ∧ r3 = p) := hfa
  clear hlt hfa c0 c2 c3
  by_cases hm : (r2 : Int) ≤ most
  · have HP : Hid (rnV most (r0, r1, r2, r3) = (r2 : Int) ∧ rnE most (r0, r1, r2, r3) = (r0 : Int) ∧ rnO on p most (r0, r1, r2, r3) = rOn on (r0, r1, r2, r3)) := by
      show rnV most (r0, r1, r2, r3) = (r2 : Int) ∧ rnE most (r0, r1, r2, r3) = (r0 : Int) ∧ rnO on p most (r0, r1, r2, r3) = rOn on (r0, r1, r2, r3)
      by_cases h0 : r0 = 0
      · simp [rnV, rnE, rnO, rOn, h0, hm]
      · have := (HF.out h0).1
        simp [rnV, rnE, rnO, rOn, h0, this]
    have hm' : ¬ most < (r2 : Int) := by omega
    go_enter Try.func22, Try.ntmps22
    go_wp2_with fail
    refine HB.out.mono ?_
    rintro e w1 ⟨rfl, hw1⟩
    have HW : Hid (RdPost w base R v xs r3 (r0 : Int) (rOn on (r0, r1, r2, r3)) w1) := hw1
    clear hw1
    go_wp2
    go_ret
    rw [HP.out.1, HP.out.2.1, HP.out.2.2]
    exact ⟨rfl, HW.out⟩
  · have HP : Hid (rnV most (r0, r1, r2, r3) = 0 ∧ rnE most (r0, r1, r2, r3) = fEn (r0 : Int) 16 ∧ rnO on p most (r0, r1, r2, r3) = fOn (r0 : Int) 16 (rOn on (r0, r1, r2, r3)) (p : Int)) := by
      show rnV most (r0, r1, r2, r3) = 0 ∧ rnE most (r0, r1, r2, r3) = fEn (r0 : Int) 16 ∧ rnO on p most (r0, r1, r2, r3) = fOn (r0 : Int) 16 (rOn on (r0, r1, r2, r3)) (p : Int)
      by_cases h0 : r0 = 0
      · simp [rnV, rnE, rnO, fEn, fOn, h0, hm]
      · simp [rnV, rnE, rnO, rOn, fEn, fOn, h0]
    have hm' : most < (r2 : Int) := by omega
    go_enter Try.func22, Try.ntmps22
    go_wp2_with fail
    refine HB.out.mono ?_
    rintro e w1 ⟨rfl, hw1⟩
    have HW : Hid (RdPost w base R v xs r3 (r0 : Int) (rOn on (r0, r1, r2, r3)) w1) := hw1
    clear hw1
    go_wp2_with fail
    refine (fail_any base R v xs r3 (r0 : Int) (rOn on (r0, r1, r2, r3)) 16 (p : Int) _ HW.out.1).mono ?_
    rintro e w2 ⟨rfl, hw2⟩
    have HW2 : Hid (RdPost w1 base R v xs r3 (fEn (r0 : Int) 16) (fOn (r0 : Int) 16 (rOn on (r0, r1, r2, r3)) (p : Int)) w2) := hw2
    clear hw2
    go_wp2
    go_ret
    rw [HP.out.1, HP.out.2.1, HP.out.2.2]
    exact ⟨rfl, HW.out.trans HW2.out⟩

set_option maxHeartbeats 800000 in
set_option maxRecDepth 100000 in
theorem read_any (sv : Value) (xs : List Nat) (w : World) (hs : Bs w sv xs) (hl : xs.length ≤ 140737488355328) :
    Calls Try.prog 14 #[sv] w fun e w' => ∃ R v, e = .returned (.pointer (some ⟨R, 0, none⟩)) ∧ Rd w' w.heap.size R v xs 0 0 0 ∧ w.heap.size ≤ R ∧ Fr w w' (fun _ => False) := by
  have Hs : Hid (Bs w sv xs) := hs
  obtain ⟨ao0, n0, cap0, rfl⟩ : ∃ ao n cap, sv = .slice ao n cap := by
    rcases hs with ⟨rfl, _⟩ | ⟨a, cap, rfl, _⟩
    · exact ⟨_, _, _, rfl⟩
    · exact ⟨_, _, _, rfl⟩
  clear hs
  go_enter Try.func14, Try.ntmps14
  go_wp2_with fail
  refine (clone_any _ xs _ Hs.out hl).mono ?_
  rintro e w1 ⟨v1, rfl, hown, hfr⟩
  obtain ⟨ao, cap, rfl⟩ := own_nil_shape hown
  have Ho : Hid (w1.ownsRow w.heap.size 5 1 (.slice ao xs.length cap) xs.length (by8 xs)) := hown
  have Hf : Hid (Fr w w1 (fun _ => False)) := hfr
  clear hown hfr
  go_wp2
  go_ret
  exact ⟨_, _, rfl, ⟨heap_alloc_new w1 _, Ho.out.alloc _⟩, Hf.out.size, Hf.out.alloc _⟩

theorem err_ok (base R : Nat) (v : Value) (xs : List Nat) (p : Nat) (on : Int) (w : World) (h : Rd w base R v xs p 0 on) :
    Calls Try.prog 20 #[.pointer (some ⟨R, 0, none⟩)] w fun e w' => e = .returned .nilIface ∧ w' = w := by
  go_enter Try.func20, Try.ntmps20
  go_wp2_with (go_at_call 40; refine (failed_any base R v xs p 0 on _ h).mono ?_; rintro e w1 ⟨rfl, hw1⟩; have hw1 := hw1.symm; subst hw1)
  go_ret
  exact ⟨rfl, rfl⟩
end Go.Proofs.Ytmadlmbpgkifoab
