/- Reader.Text, and the Reader's calls behind a fault: walks. -/
import Derived.Test.YtdhobmnljniccabRfwd
import Derived.Deep.RegionWith
import Derived.Deep.DrawnRows
namespace Go.Proofs.Ytdhobmnljniccab
open Go.RowKit
attribute [local go_sem ↓] Go.wp_at_zero Go.wp_at_succ

set_option maxHeartbeats 800000 in
set_option maxRecDepth 100000 in
theorem rbits_failed (base R : Nat) (v : Value) (xs : List Nat) (p : Nat) (L en on : Int) (w : World) (h : Rd w base R v xs p en on) (he : en ≠ 0) :
    Calls Try.prog 41 #[.pointer (some ⟨R, 0, none⟩), .int .i64 L] w fun e w' => e = .returned (.int .u64 0) ∧ w' = w := by
  have he' : (en != 0) = true := by simpa using he
  have H := hid2 h
  clear h he
  go_enter Try.func41, Try.ntmps41
  go_wp2_with (go_at_call 40; refine (failed_any base R _ xs p en on _ H.out).mono ?_; rintro e w1 ⟨rfl, hw1⟩; have hw1 := hw1.symm; subst hw1)
  go_ret
  exact ⟨rfl, rfl⟩

set_option maxHeartbeats 800000 in
set_option maxRecDepth 100000 in
theorem rnum_failed (base R : Nat) (v : Value) (xs : List Nat) (p : Nat) (most en on : Int) (w : World) (h : Rd w base R v xs p en on) (he : en ≠ 0) (hm : 0 ≤ most) :
    Calls Try.prog 22 #[.pointer (some ⟨R, 0, none⟩), .int .i64 most] w fun e w' => e = .returned (.int .i64 0) ∧ w' = w := by
  obtain ⟨c0, c1, c2, c3⟩ := four_cells h.cell
  have HB := hid2 (rbits_failed base R v xs p 9 en on w h he)
  clear h he c0 c2 c3
  go_enter Try.func22, Try.ntmps22
  go_wp2_with fail
  refine HB.out.mono ?_
  rintro e w1 ⟨rfl, hw1⟩
  have hw1 := hw1.symm
  subst hw1
  go_wp2
  go_ret
  exact ⟨rfl, rfl⟩

set_option maxHeartbeats 800000 in
set_option maxRecDepth 100000 in
theorem rint_failed (base R : Nat) (v : Value) (xs : List Nat) (p : Nat) (en on : Int) (w : World) (h : Rd w base R v xs p en on) (he : en ≠ 0) :
    Calls Try.prog 23 #[.pointer (some ⟨R, 0, none⟩)] w fun e w' => e = .returned (.int .i64 0) ∧ w' = w := by
  have HB := hid2 (rbits_failed base R v xs p 10 en on w h he)
  clear h he
  have HZ : Hid (Go.bits .xor .i64 0 (wrap64 (-wrap64 (Go.bits .and .u64 0 1))) = 0) := by
    show Go.bits .xor .i64 0 (wrap64 (-wrap64 (Go.bits .and .u64 0 1))) = 0
    decide +kernel
  go_enter Try.func23, Try.ntmps23
  go_wp2_with fail
  refine HB.out.mono ?_
  rintro e w1 ⟨rfl, hw1⟩
  have hw1 := hw1.symm
  subst hw1
  go_wp2
  go_ret
  exact ⟨congrArg (fun x => Ending.returned (.int .i64 x)) HZ.out, rfl⟩

theorem convT {W : World} {v : Value} {xs : List Nat} (h : Bs W v xs) : (convert 24 9 v).run Try.prog W = .ok (.string (str8 xs)) W :=
  run_str8 Try.underlying24 Try.underlying5 Try.underlying9 h
theorem rd_bs {w : World} {base R g cap : Nat} {xs : List Nat} {p : Nat} {en on : Int} (h : Rd w base R (.slice (some ⟨g, 0, none⟩) xs.length cap) xs p en on) (q K c : Nat) (hq : q + K ≤ xs.length) : Bs w (.slice (some ⟨g, q, none⟩) K c) ((xs.drop q).take K) := by
  have hlen : ((xs.drop q).take K).length = K := by simp; omega
  refine Or.inr ⟨⟨g, q, none⟩, c, by rw [hlen], fun j u hu => ?_⟩
  have hj : j < K := by
    rcases Nat.lt_or_ge j K with h | h
    · exact h
    · rw [List.getElem?_eq_none (by rw [by8_length, hlen]; exact h)] at hu
      cases hu
  have := h.own.cells (g := g) rfl (q + j) _ (by8_get xs (q + j) (by omega))
  rw [Addr.add_lit, Nat.zero_add] at this
  rw [Addr.add_lit, this, ← hu, by8_get _ j (by omega)]
  simp [List.getD, hj]

set_option maxHeartbeats 800000 in
set_option maxRecDepth 100000 in
theorem rtext_good (base R : Nat) (v : Value) (xs : List Nat) (p n p1 : Nat) (most on : Int) (w : World) (h : Rd w base R v xs p 0 on) (hp : p ≤ xs.length) (hx : xs.length ≤ 140737488355328) (hb8 : ∀ j, xs.getD j 0 < 256) (hr : rb xs p 9 0 0 = (0, 0, n, p1)) (hm : (n : Int) ≤ most) (hp1 : 1 ≤ p1) (hn : p1 + n ≤ xs.length) :
    Calls Try.prog 35 #[.pointer (some ⟨R, 0, none⟩), .int .i64 most] w fun e w' => e = .returned (.string (str8 ((xs.drop p1).take n))) ∧ RdPost w base R v xs (p1 + n) 0 on w' := by
  have HN := hid2 (rnum_any base R v xs p on most w h hp hx hb8)
  rw [hr] at HN
  have e1 : rnV most (0, 0, n, p1) = (n : Int) := by simp [rnV, hm]
  have e2 : rnE most (0, 0, n, p1) = 0 := by simp [rnE, hm]
  have e3 : rnO on p most (0, 0, n, p1) = on := by simp [rnO, hm]
  rw [e1, e2, e3] at HN
  clear e1 e2 e3 hr hm h hb8
  go_enter Try.func35, Try.ntmps35
  go_wp2_with fail
  refine HN.out.mono ?_
  rintro e w1 ⟨rfl, hR1, hf1⟩
  have HR1 := hid2 hR1
  have HF1 := hid2 hf1
  clear hR1 hf1 HN
  go_wp2_with fail
  refine (left_any base R v xs p1 0 on _ HR1.out (by omega) hx).mono ?_
  rintro e w2 ⟨rfl, n2, rfl⟩
  have hl : ((leftN xs p1 0 : Nat) : Int) = (xs.length : Int) - (p1 : Int) := by simp [leftN]; omega
  rw [hl]
  have HR2 := hid2 (HR1.out.drewN n2)
  have HF2 := hid2 (HF1.out.drewN n2)
  obtain ⟨ao, cap, rfl⟩ := own_nil_shape HR2.out.own
  obtain ⟨g, rfl, hlc⟩ : ∃ g, ao = some ⟨g, 0, none⟩ ∧ xs.length ≤ cap := by
    rcases HR2.out.own.2 with ⟨h, h0⟩ | ⟨g, cap', _, h, _, _, hle, _⟩
    · omega
    · simp only [Value.slice.injEq] at h
      exact ⟨g, h.1, by omega⟩
  generalize w1.drewN n2 = w2 at *
  obtain ⟨c0, c1, c2, c3⟩ := four_cells HR2.out.cell
  have f1 := free_of HR2.out.cell 1
  have t1 : ¬ (xs.length : Int) - (p1 : Int) < (n : Int) := by omega
  have t2 : (p1 : Int) + (n : Int) ≤ (cap : Int) := by omega
  have hq := fun (m c : Nat) => convT (rd_bs (HR2.out.drewN m) p1 n c hn)
  generalize hS : str8 ((xs.drop p1).take n) = SS at *
  have HS := hid2 hS
  clear hS hl
  have HP : Hid (∀ m, RdPost w base R (.slice (some ⟨g, 0, none⟩) xs.length cap) xs (p1 + n) 0 on ((w2.drewN m).setCell ⟨R, 1, none⟩ (.int .i64 ((p1 : Int) + (n : Int))))) := fun m => by
    have h := (HR2.out.drewN m).movedTo (q := p1 + n)
    rw [Int.natCast_add] at h
    exact ⟨h.1, (HF2.out.drewN m).trans h.2⟩
  by_cases hcap : cap = p1
  · have hn0 : n = 0 := by omega
    have hq2 : ∀ m, (convert 24 9 (.slice (some ⟨g, 0, none⟩) 0 0)).run Try.prog (w2.drewN m) = .ok (.string SS) (w2.drewN m) := fun m => by
      rw [← HS.out, hn0]
      exact convT (Or.inr ⟨_, _, rfl, fun j u hu => by simp [by8] at hu⟩)
    have HP0 : Hid (∀ m, RdPost w base R (.slice (some ⟨g, 0, none⟩) xs.length cap) xs (p1 + n) 0 on ((w2.drewN m).setCell ⟨R, 1, none⟩ (.int .i64 (p1 : Int)))) := fun m => by
      have := HP.out m
      rw [hn0] at this ⊢
      simpa using this
    clear hq HP
    subst hcap
    go_wp2_with fail
    go_quiet (fail)
    clear hq2
    go_wp2
    go_ret
    exact ⟨congrArg (fun s => Ending.returned (.string s)) HS.out.symm, HP0.out _⟩
  · go_wp2_with fail
    go_quiet (fail)
    clear hq
    go_wp2
    go_ret
    exact ⟨congrArg (fun s => Ending.returned (.string s)) HS.out.symm, HP.out _⟩

set_option maxHeartbeats 800000 in
set_option maxRecDepth 100000 in
/-- The number is there, the bytes are not: the cut. -/
theorem rtext_cut (base R : Nat) (v : Value) (xs : List Nat) (p n p1 : Nat) (most on : Int) (w : World) (h : Rd w base R v xs p 0 on) (hp : p ≤ xs.length) (hx : xs.length ≤ 140737488355328) (hb8 : ∀ j, xs.getD j 0 < 256) (hr : rb xs p 9 0 0 = (0, 0, n, p1)) (hm : (n : Int) ≤ most) (hp1 : p1 ≤ xs.length) (hn : xs.length < p1 + n) :
    Calls Try.prog 35 #[.pointer (some ⟨R, 0, none⟩), .int .i64 most] w fun e w' => e = .returned (.string ⟨#[]⟩) ∧ RdPost w base R v xs p1 11 (xs.length : Int) w' := by
  have HN := hid2 (rnum_any base R v xs p on most w h hp hx hb8)
  rw [hr] at HN
  have e1 : rnV most (0, 0, n, p1) = (n : Int) := by simp [rnV, hm]
  have e2 : rnE most (0, 0, n, p1) = 0 := by simp [rnE, hm]
  have e3 : rnO on p most (0, 0, n, p1) = on := by simp [rnO, hm]
  rw [e1, e2, e3] at HN
  clear e1 e2 e3 hr hm h hb8
  go_enter Try.func35, Try.ntmps35
  go_wp2_with fail
  refine HN.out.mono ?_
  rintro e w1 ⟨rfl, hR1, hf1⟩
  have HR1 := hid2 hR1
  have HF1 := hid2 hf1
  clear hR1 hf1 HN
  go_wp2_with fail
  refine (left_any base R v xs p1 0 on _ HR1.out hp1 hx).mono ?_
  rintro e w2 ⟨rfl, n2, rfl⟩
  have hl : ((leftN xs p1 0 : Nat) : Int) = (xs.length : Int) - (p1 : Int) := by simp [leftN]; omega
  rw [hl]
  have HR2 := hid2 (HR1.out.drewN n2)
  have HF2 := hid2 (HF1.out.drewN n2)
  obtain ⟨ao, cap, rfl⟩ := own_nil_shape HR2.out.own
  generalize w1.drewN n2 = w2 at *
  obtain ⟨c0, c1, c2, c3⟩ := four_cells HR2.out.cell
  have t1 : (xs.length : Int) - (p1 : Int) < (n : Int) := by omega
  clear hl
  go_wp2_with fail
  refine (fail_any base R _ xs p1 0 on 11 (xs.length : Int) _ HR2.out).mono ?_
  rintro e w3 ⟨rfl, hw3⟩
  have HP : Hid (RdPost w base R (.slice ao xs.length cap) xs p1 11 (xs.length : Int) w3) := ⟨hw3.1, HF2.out.trans hw3.2⟩
  clear hw3
  go_wp2
  go_ret
  exact ⟨rfl, HP.out⟩

/-- Text, where Num has told 0 and there is a fault. -/
def TextPost (w : World) (base R : Nat) (v : Value) (xs : List Nat) (p : Nat) (en on : Int) (e : Ending) (w' : World) : Prop :=
  (∃ s : ByteArray, e = .returned (.string s)) ∧ RdPost w base R v xs p en on w'

set_option maxHeartbeats 800000 in
set_option maxRecDepth 100000 in
theorem rtext_zero (base R : Nat) (v : Value) (xs : List Nat) (p : Nat) (most en on en0 on0 : Int) (q : Nat) (w : World) (hx : xs.length ≤ 140737488355328) (hp : p ≤ xs.length) (he : en ≠ 0)
    (HN : Calls Try.prog 22 #[.pointer (some ⟨R, 0, none⟩), .int .i64 most] w fun e w' => e = .returned (.int .i64 0) ∧ RdPost w base R v xs p en on w') (h0 : Rd w base R v xs q en0 on0) :
    Calls Try.prog 35 #[.pointer (some ⟨R, 0, none⟩), .int .i64 most] w fun e w' => TextPost w base R v xs p en on e w' := by
  have HN := hid2 HN
  have HE := hid2 he
  obtain ⟨ao, cap, rfl⟩ := own_nil_shape h0.own
  have hsh : (ao = none ∧ cap = 0 ∧ xs.length = 0) ∨ (∃ g, ao = some ⟨g, 0, none⟩) ∧ xs.length ≤ cap := by
    rcases h0.own.2 with ⟨h, h1⟩ | ⟨g, cap', _, h, _, _, hle, _⟩
    · simp only [Value.slice.injEq] at h
      exact Or.inl ⟨h.1, h.2.2, h1⟩
    · simp only [Value.slice.injEq] at h
      exact Or.inr ⟨⟨g, h.1⟩, by omega⟩
  clear h0 he
  go_enter Try.func35, Try.ntmps35
  go_wp2_with fail
  refine HN.out.mono ?_
  rintro e w1 ⟨rfl, hR1, hf1⟩
  have HR1 := hid2 hR1
  have HF1 := hid2 hf1
  clear hR1 hf1 HN
  go_wp2_with fail
  refine (left_any base R _ xs p en on _ HR1.out hp hx).mono ?_
  rintro e w2 ⟨rfl, n2, rfl⟩
  have hl : ((leftN xs p en : Nat) : Int) = 0 := by
    rw [leftN, if_neg HE.out]
    rfl
  rw [hl]
  have HR2 := hid2 (HR1.out.drewN n2)
  have HF2 := hid2 (HF1.out.drewN n2)
  generalize w1.drewN n2 = w2 at *
  obtain ⟨c0, c1, c2, c3⟩ := four_cells HR2.out.cell
  have f1 := free_of HR2.out.cell 1
  have HP : Hid (∀ m, RdPost w base R (.slice ao xs.length cap) xs p en on ((w2.drewN m).setCell ⟨R, 1, none⟩ (.int .i64 (p : Int)))) := fun m => by
    have h := (HR2.out.drewN m).movedTo (q := p)
    exact ⟨h.1, (HF2.out.drewN m).trans h.2⟩
  have hq0 := fun (m : Nat) (a : Addr) (c : Nat) => convT (W := w2.drewN m) (v := .slice (some a) 0 c) (xs := []) (Or.inr ⟨a, c, rfl, fun j u hu => by simp [by8] at hu⟩)
  have hq1 := fun (m : Nat) => convT (W := w2.drewN m) (v := .slice none 0 0) (xs := []) (Or.inl ⟨rfl, rfl⟩)
  generalize str8 [] = SS at hq0 hq1
  clear hl HF1 HR1
  rcases hsh with ⟨rfl, rfl, hx0⟩ | ⟨⟨g, rfl⟩, hlc⟩
  · obtain rfl : p = 0 := by omega
    clear hq0
    rw [hx0] at c0
    go_wp2_with fail
    go_quiet (fail)
    clear hq1
    go_wp2
    go_ret
    exact ⟨⟨_, rfl⟩, HP.out _⟩
  · have t2 : (p : Int) ≤ (cap : Int) := by omega
    clear hq1
    by_cases hcap : cap = p
    · subst hcap
      go_wp2_with fail
      go_quiet (fail)
      clear hq0
      go_wp2
      go_ret
      exact ⟨⟨_, rfl⟩, HP.out _⟩
    · go_wp2_with fail
      go_quiet (fail)
      clear hq0
      go_wp2
      go_ret
      exact ⟨⟨_, rfl⟩, HP.out _⟩

/-- The number itself is cut. -/
theorem rtext_bad (base R : Nat) (v : Value) (xs : List Nat) (p : Nat) (most on : Int) (w : World) (h : Rd w base R v xs p 0 on) (hp : p ≤ xs.length) (hx : xs.length ≤ 140737488355328) (hb8 : ∀ j, xs.getD j 0 < 256) (hr : rb xs p 9 0 0 = (11, xs.length, 0, p)) :
    Calls Try.prog 35 #[.pointer (some ⟨R, 0, none⟩), .int .i64 most] w fun e w' => TextPost w base R v xs p 11 (xs.length : Int) e w' := by
  have HN := rnum_any base R v xs p on most w h hp hx hb8
  rw [hr] at HN
  have e1 : rnV most (11, xs.length, 0, p) = 0 := by simp [rnV]
  have e2 : rnE most (11, xs.length, 0, p) = 11 := by simp [rnE]
  have e3 : rnO on p most (11, xs.length, 0, p) = (xs.length : Int) := by simp [rnO]
  rw [e1, e2, e3] at HN
  exact rtext_zero base R v xs p most 11 (xs.length : Int) 0 on p w hx hp (by decide) HN h
/-- Behind a fault. -/
theorem rtext_failed (base R : Nat) (v : Value) (xs : List Nat) (p : Nat) (most en on : Int) (w : World) (h : Rd w base R v xs p en on) (hp : p ≤ xs.length) (hx : xs.length ≤ 140737488355328) (he : en ≠ 0) (hm : 0 ≤ most) :
    Calls Try.prog 35 #[.pointer (some ⟨R, 0, none⟩), .int .i64 most] w fun e w' => TextPost w base R v xs p en on e w' :=
  rtext_zero base R v xs p most en on en on p w hx hp he ((rnum_failed base R v xs p most en on w h he hm).mono (by
    rintro e w' ⟨rfl, rfl⟩
    exact ⟨rfl, h.same⟩)) h
end Go.Proofs.Ytdhobmnljniccab
