/- Holds, Seal, Inner: walks. -/
import Derived.Test.YtimefcmemklhpaaEOps1
namespace Go.Proofs.Ytimefcmemklhpaa.E
open Go.RowKit Go.Maps Go.MuLone

theorem nat_of {o : Int} (h : may o = true) : ∃ n : Nat, o = (n : Int) ∧ 1 ≤ n ∧ n ≤ 64 := by
  have := may_true h
  exact ⟨o.toNat, by omega, by omega, by omega⟩
/-- A hand's set, as a cell. -/
theorem Bk.hand {w : World} {lk : Int} {B : Nat} {m : Nat → Option Nat} {b : Bo} (h : Bk w lk B m b) {n : Nat} (hn : n < 65) : ∃ x, m n = some x ∧ w.cell? ⟨B, 4 + n * 2, none⟩ = some (.map (some x)) ∧ w.cell? ⟨B, 4 + n * 2 + 1, none⟩ = some (.int .i64 (b.inn n)) := by
  obtain ⟨x, hx⟩ := h.som n (by omega)
  exact ⟨x, hx, by rw [← hx, ← bc_map (lk := lk) (b := b) hn]; exact h.get (by omega), by rw [← bc_inn (lk := lk) (m := m) hn]; exact h.get (by omega)⟩
/-- What a call leaves of a book and of all else. -/
def Lf (w w' : World) (B : Nat) (m : Nat → Option Nat) (b' : Bo) : Prop := ∃ m', Bk w' 0 B m' b' ∧ Fr w w' (ow B m) ∧ ∀ k, ow B m' k → ow B m k ∨ w.heap.size ≤ k
theorem Lf.mk' {w w' : World} {B : Nat} {m : Nat → Option Nat} {b' : Bo} (h : Bk w' 0 B m b') (hf : Fr w w' (ow B m)) : Lf w w' B m b' := ⟨m, h, hf, fun _ h => Or.inl h⟩
theorem Bk.drews {w : World} {lk : Int} {B : Nat} {m : Nat → Option Nat} {b : Bo} (h : Bk w lk B m b) (n : Nat) : Bk (w.drewN n) lk B m b := h.step ((Fr.refl w (fun _ => False)).drewN n)
theorem ow_B {B : Nat} {m : Nat → Option Nat} {w w' : World} (h : Fr w w' (fun k => k = B)) : Fr w w' (ow B m) := h.mono (fun _ _ e => Or.inl e)
theorem ow_F {B : Nat} {m : Nat → Option Nat} {w w' : World} (h : Fr w w' (fun _ => False)) : Fr w w' (ow B m) := h.mono (fun _ _ e => e.elim)

set_option maxHeartbeats 1000000 in
set_option maxRecDepth 100000 in
theorem holds_any {w : World} {B : Nat} {m : Nat → Option Nat} {b : Bo} (h : Bk w 0 B m b) (o e : Int) (he : fits e) :
    Calls Try.prog 15 #[.pointer (some ⟨B, 0, none⟩), .int .i64 o, .int .i64 e] w fun x w' => x = .returned (.bool (holdsB b o e)) ∧ Fr w w' (fun _ => False) := by
  have H := hid h
  have HE := hid (fits_wf he)
  cases hm : may o with
  | false =>
    have e0 : holdsB b o e = false := by simp [holdsB, hm]
    rw [e0]
    clear h he
    go_enter Try.func15, Try.ntmps15
    go_wp2_with fail
    refine (may_any o _).mono ?_
    rintro e w1 ⟨rfl, rfl⟩
    rw [hm]
    go_wp2_with fail
    go_ret
    exact ⟨rfl, Fr.refl _ _⟩
  | true =>
    obtain ⟨n, rfl, hn1, hn2⟩ := nat_of hm
    have e0 : holdsB b n e = hasB (b.sets n) e := by simp [holdsB, hm]
    rw [e0]
    have hn3 : (n : Int) < 65 := by omega
    clear h he
    go_enter_defers Try.func15, Try.ntmps15
    go_wp2_with fail
    refine (may_any n _).mono ?_
    rintro e w1 ⟨rfl, rfl⟩
    rw [hm]
    go_wp2_with fail
    refine (lock_any H.out).mono ?_
    rintro e w2 ⟨rfl, hb1, hf1⟩
    have HB := hid hb1
    have HF := hid hf1
    obtain ⟨x, hx, c4, c5⟩ := hb1.hand (show n < 65 by omega)
    have hlt := hb1.lt
    have HX := hid hx
    clear hb1 hf1 hx
    go_wp2_with fail
    refine (has_any (HB.out.ms (by omega) HX.out) HE.out).mono ?_
    rintro e w3 ⟨rfl, hf2⟩
    have HB2 := hid (HB.out.step hf2)
    have HF2 := hid (HF.out.trans (hf2.mono (fun _ _ h => h.elim)))
    clear hf2
    go_wp2_with fail
    refine leaves_cons (f := 33) (args := #[.pointer (some ⟨B, 0, none⟩)]) (by simp) (by simp [go_sem]) ?_
    refine (unlock_any HB2.out .returning).mono ?_
    rintro eZ uZ wZ ⟨rfl, rfl, hbZ, hfZ⟩
    refine ⟨_, results_tmp rfl _ _ _, ?_⟩
    exact ⟨rfl, H.out.same hbZ (HF2.out.trans hfZ)⟩

set_option maxHeartbeats 2000000 in
set_option maxRecDepth 100000 in
theorem sealM_any {w : World} {B : Nat} {m : Nat → Option Nat} {b : Bo} (h : Bk w 0 B m b) (o : Int) :
    Calls Try.prog 27 #[.pointer (some ⟨B, 0, none⟩), .int .i64 o] w fun x w' => x = .returned (.tuple #[.int .i64 (sealN b o), .int .i64 (sealErr b o)]) ∧ Lf w w' B m (sealB b o) := by
  have H := hid h
  cases hm : may o with
  | false =>
    have e0 : sealErr b o = 1 := by simp [sealErr, hm]
    have e1 : sealN b o = 0 := by simp [sealN, e0]
    have e2 : sealB b o = b := by simp [sealB, e0]
    rw [e0, e1, e2]
    clear h e0 e1 e2
    go_enter Try.func27, Try.ntmps27
    go_wp2_with fail
    refine (may_any o _).mono ?_
    rintro e w1 ⟨rfl, rfl⟩
    rw [hm]
    go_wp2_with fail
    go_ret2
    exact ⟨rfl, Lf.mk' H.out (Fr.refl _ _)⟩
  | true =>
    obtain ⟨n, rfl, hn1, hn2⟩ := nat_of hm
    have hn3 : (n : Int) < 65 := by omega
    have HP := hid h.wf.pins
    have HL := hid (h.wf.few n (by omega))
    have HN := hid h.wf.now
    clear h
    go_enter_defers Try.func27, Try.ntmps27
    go_wp2_with fail
    refine (may_any n _).mono ?_
    rintro e w1 ⟨rfl, rfl⟩
    rw [hm]
    go_wp2_with fail
    refine (lock_any H.out).mono ?_
    rintro e w2 ⟨rfl, hb1, hf1⟩
    have HB := hid hb1
    have HF := hid hf1
    obtain ⟨x, hx, c4, c5⟩ := hb1.hand (show n < 65 by omega)
    have hlt := hb1.lt
    have HX := hid hx
    have c2 : w2.cell? ⟨B, 2, none⟩ = some (.int .i64 b.pins) := hb1.get (by omega)
    have hl := fun k => ((hb1.ms (show n ≤ 66 by omega) hx).at (w' := w2.drewN k) rfl).len
    clear hb1 hf1 hx
    by_cases t1 : b.pins ≤ ((b.sets n).length : Int)
    · have e0 : sealErr b n = 34 := by simp [sealErr, hm, t1]
      have E1 := hid (show sealN b n = 0 by simp [sealN, e0])
      have E2 := hid (show sealB b n = b by simp [sealB, e0])
      have E0 := hid e0
      clear e0
      go_wp2_with fail
      go_quiet (fail)
      go_wp2_with fail
      refine leaves_cons (f := 33) (args := #[.pointer (some ⟨B, 0, none⟩)]) (by simp) (by simp [go_sem]) ?_
      refine (unlock_any (HB.out.drews nq) .returning).mono ?_
      rintro eZ uZ wZ ⟨rfl, rfl, hbZ, hfZ⟩
      refine ⟨_, results_tmp2 rfl _ _ _, ?_⟩
      rw [E0.out, E1.out, E2.out]
      exact ⟨rfl, Lf.mk' hbZ (ow_B ((HF.out.drewN nq).trans hfZ))⟩
    · by_cases t2 : b.now < 1099511627776
      · have e0 : sealErr b n = 0 := by simp [sealErr, hm, t1, t2]
        have E1 := hid (show sealN b n = b.now by simp [sealN, e0])
        have E2 := hid (show sealB b n = { b with sets := upd b.sets n (ins b.now (b.sets n)), now := b.now + 1 } by simp [sealB, e0])
        have E0 := hid e0
        clear e0
        have T1 := hid t1
        have T2 := hid t2
        go_wp2_with fail
        go_quiet (fail)
        go_wp2_with fail
        refine (seal_any (HB.out.drews nq) T2.out).mono ?_
        rintro e w3 ⟨rfl, hb3, hf3⟩
        have HB3 := hid hb3
        have HF3 := hid ((HF.out.drewN nq).trans hf3)
        clear c4 c5 c2 hl
        obtain ⟨x', hx', c4, _⟩ := hb3.hand (show n < 65 by omega)
        rw [HX.out] at hx'
        cases hx'
        have hlt3 := hb3.lt
        clear hb3 hf3
        go_wp2_with fail
        have hlen := HB3.out.wf.len n
        dsimp only at hlen
        refine (add_any (HB3.out.ms (by omega) HX.out) (HB3.out.wf.ri n) (by dsimp only; unfold maxLen; omega) (fits_wf (by have := HN.out; unfold fits; omega))).mono ?_
        rintro e w4 ⟨rfl, hm4, hg4⟩
        have HB4 := hid (HB3.out.turn (by omega) HX.out hg4 hm4 (HB3.out.wf.put (ri_ins (HB3.out.wf.ri n)) (fun y hy => by
          rcases mem_ins.1 hy with rfl | hy
          · have := HN.out; dsimp only; omega
          · exact HB3.out.wf.lo n y hy) (fun _ => by
          have h1 := ins_len (e := b.now) (HB3.out.wf.ri n)
          have h2 := T1.out
          dsimp only at h1 ⊢
          split at h1 <;> omega)))
        have HF4 := hid ((ow_B (m := m) HF3.out).grown hg4 (fun k _ hk => by cases hk; exact Or.inr ⟨n, by omega, HX.out⟩))
        clear hm4 hg4
        go_wp2_with fail
        refine leaves_cons (f := 33) (args := #[.pointer (some ⟨B, 0, none⟩)]) (by simp) (by simp [go_sem]) ?_
        refine (unlock_any HB4.out .returning).mono ?_
        rintro eZ uZ wZ ⟨rfl, rfl, hbZ, hfZ⟩
        refine ⟨_, results_tmp2 rfl _ _ _, ?_⟩
        rw [E0.out, E1.out, E2.out]
        exact ⟨rfl, Lf.mk' hbZ (HF4.out.trans (ow_B hfZ))⟩
      · have e0 : sealErr b n = 2 := by simp [sealErr, hm, t1]; omega
        have E1 := hid (show sealN b n = 0 by simp [sealN, e0])
        have E2 := hid (show sealB b n = b by simp [sealB, e0])
        have E0 := hid e0
        clear e0
        go_wp2_with fail
        go_quiet (fail)
        go_wp2_with fail
        refine (seal_many (HB.out.drews nq) (by omega)).mono ?_
        rintro e w3 ⟨rfl, rfl⟩
        go_wp2_with fail
        refine leaves_cons (f := 33) (args := #[.pointer (some ⟨B, 0, none⟩)]) (by simp) (by simp [go_sem]) ?_
        refine (unlock_any (HB.out.drews nq) .returning).mono ?_
        rintro eZ uZ wZ ⟨rfl, rfl, hbZ, hfZ⟩
        refine ⟨_, results_tmp2 rfl _ _ _, ?_⟩
        rw [E0.out, E1.out, E2.out]
        exact ⟨rfl, Lf.mk' hbZ (ow_B ((HF.out.drewN nq).trans hfZ))⟩
end Go.Proofs.Ytimefcmemklhpaa.E
