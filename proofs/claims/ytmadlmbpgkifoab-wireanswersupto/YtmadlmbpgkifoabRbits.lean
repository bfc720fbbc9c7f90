/- Reader.bits: a walk. -/
import Derived.Test.YtmadlmbpgkifoabRd
namespace Go.Proofs.Ytmadlmbpgkifoab
open Go.RowKit

/-- May the last byte, with so many ahead of it, be? -/
def lastOk (b k : Nat) : Bool := if k = 0 then true else if k = 9 then b == 1 else b != 0
/-- What is read: the fault (0: none), its place, the number, the place behind it. -/
def rb (xs : List Nat) (p : Nat) : Nat → Nat → Nat → Nat × Nat × Nat × Nat
  | 0, _, _ => (12, p, 0, p)
  | f + 1, k, u => if k = xs.length - p then (11, xs.length, 0, p) else
      if 128 ≤ xs.getD (p + k) 0 then rb xs p f (k + 1) (u + xs.getD (p + k) 0 % 128 * 128 ^ k % 18446744073709551616)
      else if lastOk (xs.getD (p + k) 0) k then (0, 0, u + xs.getD (p + k) 0 % 128 * 128 ^ k % 18446744073709551616, p + k + 1) else (12, p, 0, p)

theorem rd_drew {w : World} {base R : Nat} {v : Value} {xs : List Nat} {p : Nat} {en on : Int} (h : Rd w base R v xs p en on) (n : Nat) : RdPost w base R v xs p en on (w.drewN n) := by
  have hf : Fr w (w.drewN n) (fun k => k = R) := ⟨rfl, rfl, rfl, Nat.le_refl _, fun k _ _ => rfl⟩
  exact ⟨⟨h.cell, own_fr (S := fun _ => False) h.own ⟨rfl, rfl, rfl, Nat.le_refl _, fun k _ _ => rfl⟩ (fun _ _ h => h)⟩, hf⟩

theorem lastOk_zero (b : Nat) : lastOk b 0 = true := rfl

set_option maxHeartbeats 800000 in
set_option maxRecDepth 100000 in
theorem last_any (b k : Nat) (w : World) :
    Calls Try.prog 48 #[.int .u8 (b : Int), .int .i64 (k : Int)] w fun e w' => e = .returned (.bool (lastOk b k)) ∧ w' = w := by
  by_cases h0 : k = 0
  · subst h0
    go_enter Try.func48, Try.ntmps48
    go_wp2
    go_ret
    exact ⟨rfl, rfl⟩
  · have e0 : ((k : Int) == 0) = false := by simp; omega
    by_cases h9 : k = 9
    · subst h9
      have H : Hid (lastOk b 9 = ((b : Int) == 1)) := by
        show (if (9 : Nat) = 0 then true else if (9 : Nat) = 9 then b == 1 else b != 0) = _
        simp
        rw [Bool.eq_iff_iff]
        simp
        omega
      clear h0
      go_enter Try.func48, Try.ntmps48
      go_wp2
      go_ret
      exact ⟨by rw [H.out]; rfl, rfl⟩
    · have e9 : ((k : Int) == 9) = false := by simp; omega
      have H : Hid (lastOk b k = ((b : Int) != 0)) := by
        show (if k = 0 then true else if k = 9 then b == 1 else b != 0) = _
        rw [if_neg h0, if_neg h9, Bool.eq_iff_iff]
        simp
      clear h0 h9
      go_enter Try.func48, Try.ntmps48
      go_wp2
      go_ret
      exact ⟨by rw [H.out]; rfl, rfl⟩

theorem rb_cut (xs : List Nat) (p f k u : Nat) (hk : k = xs.length - p) : rb xs p (f + 1) k u = (11, xs.length, 0, p) := by
  rw [rb, if_pos hk]
theorem rb_more (xs : List Nat) (p f k u b : Nat) (hb : xs.getD (p + k) 0 = b) (hk : k < xs.length - p) (h : 128 ≤ b) : rb xs p (f + 1) k u = rb xs p f (k + 1) (u + b % 128 * 128 ^ k % 18446744073709551616) := by
  rw [rb, if_neg (by omega), hb, if_pos h]
theorem rb_bad (xs : List Nat) (p f k u b : Nat) (hb : xs.getD (p + k) 0 = b) (hk : k < xs.length - p) (h : b < 128) (hl : lastOk b k = false) : rb xs p (f + 1) k u = (12, p, 0, p) := by
  rw [rb, if_neg (by omega), hb, if_neg (by omega), hl]
  rfl
theorem rb_good (xs : List Nat) (p f k u b : Nat) (hb : xs.getD (p + k) 0 = b) (hk : k < xs.length - p) (h : b < 128) (hl : lastOk b k = true) : rb xs p (f + 1) k u = (0, 0, u + b % 128 * 128 ^ k % 18446744073709551616, p + k + 1) := by
  rw [rb, if_neg (by omega), hb, if_neg (by omega), hl]
  rfl

def rOn (on : Int) (r : Nat × Nat × Nat × Nat) : Int := if r.1 = 0 then on else (r.2.1 : Int)
/-- What a read leaves. -/
def RbPost (w : World) (base R : Nat) (v : Value) (xs : List Nat) (on : Int) (r : Nat × Nat × Nat × Nat) (e : Ending) (w' : World) : Prop :=
  e = .returned (.int .u64 (r.2.2.1 : Int)) ∧ RdPost w base R v xs r.2.2.2 (r.1 : Int) (rOn on r) w'

theorem RdPost.drew {w w' : World} {base R : Nat} {v : Value} {xs : List Nat} {p : Nat} {en on : Int} {n : Nat} (h : RdPost (w.drewN n) base R v xs p en on w') : RdPost w base R v xs p en on w' :=
  ⟨h.1, ⟨h.2.os, h.2.tape, h.2.output, h.2.size, h.2.block⟩⟩

set_option maxHeartbeats 2000000 in
set_option maxRecDepth 100000 in
theorem rbits_any (base R : Nat) (v : Value) (xs : List Nat) (p L : Nat) (on : Int) (w : World) (h : Rd w base R v xs p 0 on) (hp : p ≤ xs.length) (hx : xs.length ≤ 140737488355328) (hL : L ≤ 10) (hb8 : ∀ j, xs.getD j 0 < 256) :
    Calls Try.prog 41 #[.pointer (some ⟨R, 0, none⟩), .int .i64 (L : Int)] w fun e w' => RbPost w base R v xs on (rb xs p L 0 0) e w' := by
  obtain ⟨c0, c1, c2, c3⟩ := four_cells h.cell
  obtain ⟨ao, cap, rfl⟩ := own_nil_shape h.own
  have f1 := free_of h.cell 1
  have H : Hid (Rd w base R (.slice ao xs.length cap) xs p 0 on) := h
  clear h c3
  go_enter Try.func41, Try.ntmps41
  go_wp2_with (go_at_call 40; refine (failed_any base R _ xs p 0 on _ H.out).mono ?_; rintro e w1 ⟨rfl, hw1⟩; have hw1 := hw1.symm; subst hw1)
  go_loopw [5, 11] (fun a i wr => ∃ k u : Nat, k ≤ L ∧ i = .int .i64 (k : Int) ∧ a = .int .u64 (u : Int) ∧ k ≤ xs.length - p ∧ Hid (k ≤ 9 → u < 128 ^ k) ∧ Hid (rb xs p (L - k) k u = rb xs p L 0 0) ∧ ∃ n, wr = w.drewN n) (fun _ i _ => L - (intOf i).toNat)
  case atStart => exact ⟨0, 0, Nat.zero_le _, rfl, rfl, Nat.zero_le _, fun _ => by decide, rfl, 0, rfl⟩
  case round =>
    obtain ⟨k, u, hk, rfl, rfl, hkl, hu, hr, n, rfl⟩ := hrel
    by_cases hlt : k < L
    · have HL : Hid (L - k = (L - k - 1) + 1) := by show L - k = (L - k - 1) + 1; omega
      by_cases hcut : k = xs.length - p
      · have hc : ((k : Int) == (xs.length : Int) - (p : Int)) = true := by simp; omega
        have HR : Hid (rb xs p L 0 0 = (11, xs.length, 0, p)) := by
          show rb xs p L 0 0 = (11, xs.length, 0, p)
          rw [← hr.out, HL.out, rb_cut _ _ _ _ _ hcut]
        clear hcut
        go_wp2_with fail
        go_quiet (fail)
        go_wp2_with fail
        refine (fail_any base R _ xs p 0 on 11 (xs.length : Int) _ (rd_drew H.out _).1).mono ?_
        rintro e w1 ⟨rfl, hw1⟩
        have HW : Hid (RbPost w base R (.slice ao xs.length cap) xs on (rb xs p L 0 0) (.returned (.int .u64 0)) w1) := by
          have := hw1.drew
          refine ⟨by rw [HR.out]; rfl, ?_⟩
          rw [HR.out]
          exact this
        clear hw1
        go_wp2
        go_ret
        exact HW.out
      · have hc : ((k : Int) == (xs.length : Int) - (p : Int)) = false := by simp; omega
        have hkk : k < xs.length - p := by omega
        clear hcut
        obtain ⟨g, rfl⟩ : ∃ g, ao = some ⟨g, 0, none⟩ := by
          rcases H.out.own.2 with ⟨h, h0⟩ | ⟨g, _, _, h, _⟩
          · omega
          · simp at h; exact ⟨g, h.1⟩
        generalize hbb : xs.getD (p + k) 0 = b at *
        have Hbb : Hid (xs.getD (p + k) 0 = b) := hbb
        have hb : (b : Int) < 256 := by have := hb8 (p + k); omega
        have hi1 : (0 : Int) ≤ (p : Int) + (k : Int) := by omega
        have hi2 : (p : Int) + (k : Int) < (xs.length : Int) := by omega
        clear hbb
        have hwr : IntKind.i64.wrap ((p : Int) + (k : Int)) = (p : Int) + (k : Int) := by rw [IntKind.wrap_i64]; omega
        have cb2 : w.cell? ⟨g, ((p : Int) + (k : Int)).toNat, none⟩ = some (.int .u8 (b : Int)) := by
          rw [show ((p : Int) + (k : Int)).toNat = p + k from by omega, ← Hbb.out]
          have := H.out.own.cells (g := g) rfl (p + k) _ (by8_get xs (p + k) (by omega))
          rwa [show (⟨g, 0, none⟩ : Addr).add (p + k) = ⟨g, p + k, none⟩ from by rw [Addr.add_lit, Nat.zero_add]] at this
        have HU : Hid (Go.bits .or .u64 (u : Int) (IntKind.u64.wrap (IntKind.u64.wrap (Go.bits .andNot .u8 (b : Int) 128) * 2 ^ (7 * k))) = ((u + b % 128 * 128 ^ k % 18446744073709551616 : Nat) : Int)) := seven_step u b k (by omega) (hu.out (by omega)) (by omega)
        by_cases hm : 128 ≤ b
        · have hm' : (128 : Int) ≤ (b : Int) := by omega
          have HR : Hid (rb xs p (L - (k + 1)) (k + 1) (u + b % 128 * 128 ^ k % 18446744073709551616) = rb xs p L 0 0) := by
            show rb xs p (L - (k + 1)) (k + 1) (u + b % 128 * 128 ^ k % 18446744073709551616) = rb xs p L 0 0
            rw [← hr.out, HL.out, rb_more _ _ _ _ _ b Hbb.out hkk hm, show L - (k + 1) = L - k - 1 from by omega]
          have HU2 : Hid (k + 1 ≤ 9 → u + b % 128 * 128 ^ k % 18446744073709551616 < 128 ^ (k + 1)) := fun h => or_sevens_lt2 u (b % 128) k (Nat.mod_lt _ (by decide)) (hu.out (by omega))
          go_wp2_with fail
          go_quiet (fail)
          go_wp2_with fail
          go_quiet (fail)
          go_wp2_with fail
          refine ⟨⟨k + 1, _, by omega, by go_num, by rw [HU.out], by omega, HU2, HR, _, rfl⟩, by simp [intOf]; omega⟩
        · have hm' : (b : Int) < 128 := by omega
          cases hok : lastOk b k
          · have HR : Hid (rb xs p L 0 0 = (12, p, 0, p)) := by
              show rb xs p L 0 0 = (12, p, 0, p)
              rw [← hr.out, HL.out, rb_bad _ _ _ _ _ b Hbb.out hkk (by omega) hok]
            have Hok : Hid (lastOk b k = false) := hok
            clear hok hm
            go_wp2_with fail
            go_quiet (fail)
            go_wp2_with fail
            go_quiet (fail)
            go_wp2_with fail
            refine (last_any b k _).mono ?_
            rintro e w1 ⟨rfl, hw1⟩
            subst hw1
            rw [Hok.out]
            go_wp2_with fail
            refine (fail_any base R _ xs p 0 on 12 (p : Int) _ (rd_drew H.out _).1).mono ?_
            rintro e w1 ⟨rfl, hw1⟩
            have HW : Hid (RbPost w base R (.slice (some ⟨g, 0, none⟩) xs.length cap) xs on (rb xs p L 0 0) (.returned (.int .u64 0)) w1) := by
              have := hw1.drew
              refine ⟨by rw [HR.out]; rfl, ?_⟩
              rw [HR.out]
              exact this
            clear hw1
            go_wp2
            go_ret
            exact HW.out
          · have HR : Hid (rb xs p L 0 0 = (0, 0, u + b % 128 * 128 ^ k % 18446744073709551616, p + k + 1)) := by
              show rb xs p L 0 0 = (0, 0, u + b % 128 * 128 ^ k % 18446744073709551616, p + k + 1)
              rw [← hr.out, HL.out, rb_good _ _ _ _ _ b Hbb.out hkk (by omega) hok]
            have Hok : Hid (lastOk b k = true) := hok
            clear hok hm
            go_wp2_with fail
            go_quiet (fail)
            go_wp2_with fail
            go_quiet (fail)
            go_wp2_with fail
            refine (last_any b k _).mono ?_
            rintro e w1 ⟨rfl, hw1⟩
            subst hw1
            rw [Hok.out]
            go_wp2
            go_ret
            rw [HR.out]
            refine ⟨congrArg (fun x => Ending.returned (.int .u64 x)) HU.out, ?_⟩
            rw [show (p : Int) + ((k : Int) + 1) = ((p + k + 1 : Nat) : Int) from by omega]
            exact RdPost.drew ((rd_drew H.out _).1.movedTo (q := p + k + 1))
    · have HR : Hid (rb xs p L 0 0 = (12, p, 0, p)) := by
        show rb xs p L 0 0 = (12, p, 0, p)
        rw [← hr.out, show L - k = 0 from by omega]
        rfl
      go_wp2_with fail
      refine (fail_any base R _ xs p 0 on 12 (p : Int) _ (rd_drew H.out _).1).mono ?_
      rintro e w1 ⟨rfl, hw1⟩
      have HW : Hid (RbPost w base R (.slice ao xs.length cap) xs on (rb xs p L 0 0) (.returned (.int .u64 0)) w1) := by
        have := hw1.drew
        refine ⟨by rw [HR.out]; rfl, ?_⟩
        rw [HR.out]
        exact this
      clear hw1
      go_wp2
      go_ret
      exact HW.out
end Go.Proofs.Ytmadlmbpgkifoab
