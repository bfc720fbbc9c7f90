/- Inner, Join, Release, Done: walks. -/
import Derived.Test.YtimefcmemklhpaaEOps2
namespace Go.Proofs.Ytimefcmemklhpaa.E
open Go.RowKit Go.Maps Go.MuLone

/-- An inner one is stored. -/
theorem Bk.setInn {w : World} {lk : Int} {B : Nat} {m : Nat → Option Nat} {b : Bo} (h : Bk w lk B m b) {n : Nat} (hn : n < 65) {v : Int} (hv : 0 ≤ v ∧ v < b.now) : Bk (w.setCell ⟨B, 4 + n * 2 + 1, none⟩ (.int .i64 v)) lk B m { b with inn := upd b.inn n v } := by
  refine h.poke (by omega) (fun q hq => ?_) h.map h.som h.apart (h.wf.inner hv)
  by_cases e : q = 4 + n * 2 + 1
  · subst e
    rw [if_pos rfl, bc_inn hn]
    simp [upd]
  · rw [if_neg e]
    unfold bc
    by_cases h0 : q < 4
    · rcases (show q = 0 ∨ q = 1 ∨ q = 2 ∨ q = 3 by omega) with rfl | rfl | rfl | rfl <;> simp
    · by_cases h1 : q = 134
      · subst h1; simp
      · by_cases h2 : q = 135
        · subst h2; simp
        · by_cases h3 : q = 136
          · subst h3; simp
          · by_cases h4 : q % 2 = 0
            · simp [h1, h2, h3, h4]
            · have : upd b.inn n v ((q - 4) / 2) = b.inn ((q - 4) / 2) := upd_other _ _ (by omega)
              simp [h1, h2, h3, h4, this]

set_option maxHeartbeats 2000000 in
set_option maxRecDepth 100000 in
theorem innM_any {w : World} {B : Nat} {m : Nat → Option Nat} {b : Bo} (h : Bk w 0 B m b) (o : Int) :
    Calls Try.prog 37 #[.pointer (some ⟨B, 0, none⟩), .int .i64 o] w fun x w' => x = .returned (.tuple #[.int .i64 (innN b o), .int .i64 (innErr b o)]) ∧ Lf w w' B m (innB b o) := by
  have H := hid h
  cases hm : may o with
  | false =>
    have e0 : innErr b o = 1 := by simp [innErr, hm]
    have e1 : innN b o = 0 := by simp [innN, e0]
    have e2 : innB b o = b := by simp [innB, e0]
    rw [e0, e1, e2]
    clear h e0 e1 e2
    go_enter Try.func37, Try.ntmps37
    go_wp2_with fail
    refine (may_any o _).mono ?_
    rintro e w1 ⟨rfl, rfl⟩
    rw [hm]
    go_wp2_with fail
    go_ret2
    exact ⟨rfl, Lf.mk' H.out (Fr.refl _ _)⟩
  | true =>
    obtain ⟨n, rfl, hn1, hn2⟩ := nat_of hm
    have hn3 : (n : Int) < 65 := by omega
    have HN := hid h.wf.now
    clear h
    go_enter_defers Try.func37, Try.ntmps37
    go_wp2_with fail
    refine (may_any n _).mono ?_
    rintro e w1 ⟨rfl, rfl⟩
    rw [hm]
    go_wp2_with fail
    refine (lock_any H.out).mono ?_
    rintro e w2 ⟨rfl, hb1, hf1⟩
    have HB := hid hb1
    have HF := hid hf1
    obtain ⟨x, hx, c4, c5⟩ := hb1.hand (show n < 65 by omega)
    have hlt := hb1.lt
    have HX := hid hx
    clear hb1 hf1 hx
    by_cases t1 : b.inn n = 0
    · by_cases t2 : b.now < 1099511627776
      · have e0 : innErr b n = 0 := by simp [innErr, hm, t1, t2]
        have E1 := hid (show innN b n = b.now by simp [innN, e0])
        have E2 := hid (show innB b n = { b with inn := upd b.inn n b.now, now := b.now + 1 } by simp [innB, e0])
        have E0 := hid e0
        clear e0
        have T2 := hid t2
        go_wp2_with fail
        refine (seal_any HB.out T2.out).mono ?_
        rintro e w3 ⟨rfl, hb3, hf3⟩
        have HB3 := hid hb3
        have HF3 := hid (HF.out.trans hf3)
        clear c4 c5
        obtain ⟨x', hx', c4, c5⟩ := hb3.hand (show n < 65 by omega)
        have f5 := hb3.free (4 + n * 2 + 1)
        have hlt3 := hb3.lt
        clear hb3 hf3 hx' c4
        go_wp2_with fail
        have HB4 := hid (HB3.out.setInn (n := n) (by omega) (v := b.now) (by have := HN.out; dsimp only; omega))
        refine leaves_cons (f := 33) (args := #[.pointer (some ⟨B, 0, none⟩)]) (by simp) (by simp [go_sem]) ?_
        refine (unlock_any HB4.out .returning).mono ?_
        rintro eZ uZ wZ ⟨rfl, rfl, hbZ, hfZ⟩
        refine ⟨_, results_tmp2 rfl _ _ _, ?_⟩
        rw [E0.out, E1.out, E2.out]
        exact ⟨rfl, Lf.mk' hbZ (ow_B ((HF3.out.trans (fr_poke _ _ _ _)).trans hfZ))⟩
      · have e0 : innErr b n = 2 := by simp [innErr, hm, t1]; omega
        have E1 := hid (show innN b n = 0 by simp [innN, e0])
        have E2 := hid (show innB b n = b by simp [innB, e0])
        have E0 := hid e0
        clear e0
        go_wp2_with fail
        refine (seal_many HB.out (by omega)).mono ?_
        rintro e w3 ⟨rfl, rfl⟩
        go_wp2_with fail
        refine leaves_cons (f := 33) (args := #[.pointer (some ⟨B, 0, none⟩)]) (by simp) (by simp [go_sem]) ?_
        refine (unlock_any HB.out .returning).mono ?_
        rintro eZ uZ wZ ⟨rfl, rfl, hbZ, hfZ⟩
        refine ⟨_, results_tmp2 rfl _ _ _, ?_⟩
        rw [E0.out, E1.out, E2.out]
        exact ⟨rfl, Lf.mk' hbZ (ow_B (HF.out.trans hfZ))⟩
    · have e0 : innErr b n = 43 := by simp [innErr, hm, t1]
      have E1 := hid (show innN b n = 0 by simp [innN, e0])
      have E2 := hid (show innB b n = b by simp [innB, e0])
      have E0 := hid e0
      clear e0
      go_wp2_with fail
      refine leaves_cons (f := 33) (args := #[.pointer (some ⟨B, 0, none⟩)]) (by simp) (by simp [go_sem]) ?_
      refine (unlock_any HB.out .returning).mono ?_
      rintro eZ uZ wZ ⟨rfl, rfl, hbZ, hfZ⟩
      refine ⟨_, results_tmp2 rfl _ _ _, ?_⟩
      rw [E0.out, E1.out, E2.out]
      exact ⟨rfl, Lf.mk' hbZ (ow_B (HF.out.trans hfZ))⟩

theorem some_has {b : Bo} {e : Int} (h : some' b e = true) : ∃ i, i < 65 ∧ e ∈ b.sets i := by
  unfold some' at h
  rw [List.any_eq_true] at h
  obtain ⟨i, hi, h⟩ := h
  exact ⟨i, by simpa using hi, hasB_true.1 h⟩

set_option maxHeartbeats 2000000 in
set_option maxRecDepth 100000 in
theorem joinM_any {w : World} {B : Nat} {m : Nat → Option Nat} {b : Bo} (h : Bk w 0 B m b) (o e : Int) (he : fits e) :
    Calls Try.prog 28 #[.pointer (some ⟨B, 0, none⟩), .int .i64 o, .int .i64 e] w fun x w' => x = .returned (.int .i64 (joinErr b o e)) ∧ Lf w w' B m (joinB b o e) := by
  have H := hid h
  have HE := hid he
  cases hm : may o with
  | false =>
    have e0 : joinErr b o e = 1 := by simp [joinErr, hm]
    have e2 : joinB b o e = b := by simp [joinB, e0]
    rw [e0, e2]
    clear h e0 e2 he
    go_enter Try.func28, Try.ntmps28
    go_wp2_with fail
    refine (may_any o _).mono ?_
    rintro e w1 ⟨rfl, rfl⟩
    rw [hm]
    go_wp2_with fail
    go_ret
    exact ⟨rfl, Lf.mk' H.out (Fr.refl _ _)⟩
  | true =>
    obtain ⟨n, rfl, hn1, hn2⟩ := nat_of hm
    have hn3 : (n : Int) < 65 := by omega
    have HP := hid h.wf.pins
    have HL := hid (h.wf.few n (by omega))
    clear h he
    go_enter_defers Try.func28, Try.ntmps28
    go_wp2_with fail
    refine (may_any n _).mono ?_
    rintro e w1 ⟨rfl, rfl⟩
    rw [hm]
    go_wp2_with fail
    refine (lock_any H.out).mono ?_
    rintro e w2 ⟨rfl, hb1, hf1⟩
    have HB := hid hb1
    have HF := hid hf1
    obtain ⟨x, hx, c4, c5⟩ := hb1.hand (show n < 65 by omega)
    have hlt := hb1.lt
    have HX := hid hx
    clear hb1 hf1 hx
    go_wp2_with fail
    refine (pinned_any HB.out HE.out).mono ?_
    rintro xe w3 ⟨rfl, hf3⟩
    have hb3 := HB.out.step hf3
    have HB3 := hid hb3
    have HF3 := hid (HF.out.trans (hf3.mono (fun _ _ h => h.elim)))
    have c43 : w3.cell? ⟨B, 4 + n * 2, none⟩ = some (.map (some x)) := by obtain ⟨x', hx', c, _⟩ := hb3.hand (show n < 65 by omega); rw [HX.out] at hx'; cases hx'; exact c
    have hlt3 := hb3.lt
    clear hb3 hf3 c4 c5 hlt
    cases hs : some' b e with
    | false =>
      have e0 : joinErr b n e = 33 := by simp [joinErr, hm, hs]
      have E2 := hid (show joinB b n e = b by simp [joinB, e0])
      have E0 := hid e0
      clear e0
      go_wp2_with fail
      refine leaves_cons (f := 33) (args := #[.pointer (some ⟨B, 0, none⟩)]) (by simp) (by simp [go_sem]) ?_
      refine (unlock_any HB3.out .returning).mono ?_
      rintro eZ uZ wZ ⟨rfl, rfl, hbZ, hfZ⟩
      refine ⟨_, results_tmp rfl _ _ _, ?_⟩
      rw [E0.out, E2.out]
      exact ⟨rfl, Lf.mk' hbZ (ow_B (HF3.out.trans hfZ))⟩
    | true =>
      go_wp2_with fail
      refine (has_any (HB3.out.ms (by omega) HX.out) (fits_wf HE.out)).mono ?_
      rintro xe w4 ⟨rfl, hf4⟩
      have hb4 := HB3.out.step hf4
      have HB4 := hid hb4
      have HF4 := hid (HF3.out.trans (hf4.mono (fun _ _ h => h.elim)))
      have c44 : w4.cell? ⟨B, 4 + n * 2, none⟩ = some (.map (some x)) := by obtain ⟨x', hx', c, _⟩ := hb4.hand (show n < 65 by omega); rw [HX.out] at hx'; cases hx'; exact c
      have c2 : w4.cell? ⟨B, 2, none⟩ = some (.int .i64 b.pins) := hb4.get (by omega)
      have hlt4 := hb4.lt
      have hl := fun k => ((hb4.ms (show n ≤ 66 by omega) HX.out).at (w' := w4.drewN k) rfl).len
      clear hb4 hf4 c43 hlt3
      cases hh : hasB (b.sets n) e with
      | true =>
        have e0 : joinErr b n e = 0 := by simp [joinErr, hm, hs, hh]
        have E2 := hid (show joinB b n e = b by
          simp only [joinB, e0, if_true, Int.toNat_natCast]
          rw [ins_there (HB4.out.wf.ri n) (hasB_true.1 hh)]
          have : upd b.sets n (b.sets n) = b.sets := by
            funext j
            by_cases hj : j = n
            · subst hj; rw [upd_same]
            · rw [upd_other _ _ hj]
          rw [this])
        have E0 := hid e0
        clear e0
        go_wp2_with fail
        refine leaves_cons (f := 33) (args := #[.pointer (some ⟨B, 0, none⟩)]) (by simp) (by simp [go_sem]) ?_
        refine (unlock_any HB4.out .returning).mono ?_
        rintro eZ uZ wZ ⟨rfl, rfl, hbZ, hfZ⟩
        refine ⟨_, results_tmp rfl _ _ _, ?_⟩
        rw [E0.out, E2.out]
        exact ⟨rfl, Lf.mk' hbZ (ow_B (HF4.out.trans hfZ))⟩
      | false =>
        by_cases t1 : b.pins ≤ ((b.sets n).length : Int)
        · have e0 : joinErr b n e = 34 := by simp [joinErr, hm, hs, hh, t1]
          have E2 := hid (show joinB b n e = b by simp [joinB, e0])
          have E0 := hid e0
          clear e0
          go_wp2_with fail
          go_quiet (fail)
          go_wp2_with fail
          refine leaves_cons (f := 33) (args := #[.pointer (some ⟨B, 0, none⟩)]) (by simp) (by simp [go_sem]) ?_
          refine (unlock_any (HB4.out.drews nq) .returning).mono ?_
          rintro eZ uZ wZ ⟨rfl, rfl, hbZ, hfZ⟩
          refine ⟨_, results_tmp rfl _ _ _, ?_⟩
          rw [E0.out, E2.out]
          exact ⟨rfl, Lf.mk' hbZ (ow_B ((HF4.out.drewN nq).trans hfZ))⟩
        · have e0 : joinErr b n e = 0 := by simp [joinErr, hm, hs, hh, t1]
          have E2 := hid (show joinB b n e = { b with sets := upd b.sets n (ins e (b.sets n)) } by simp [joinB, e0])
          have E0 := hid e0
          have T1 := hid t1
          have HS := hid (some_has hs)
          clear e0
          go_wp2_with fail
          go_quiet (fail)
          go_wp2_with fail
          have HBq := hid (HB4.out.drews nq)
          have hlen := HBq.out.wf.len n
          refine (add_any (HBq.out.ms (by omega) HX.out) (HBq.out.wf.ri n) (by unfold maxLen; omega) (fits_wf HE.out)).mono ?_
          rintro xe w5 ⟨rfl, hm5, hg5⟩
          have HB5 := hid (HBq.out.turn (by omega) HX.out hg5 hm5 (HBq.out.wf.put (ri_ins (HBq.out.wf.ri n)) (fun y hy => by
            rcases mem_ins.1 hy with rfl | hy
            · obtain ⟨i, _, hi⟩ := HS.out
              exact HBq.out.wf.lo i y hi
            · exact HBq.out.wf.lo n y hy) (fun _ => by
            have h1 := ins_len (e := e) (HBq.out.wf.ri n)
            have h2 := T1.out
            split at h1 <;> omega)))
          have HF5 := hid ((ow_B (m := m) (HF4.out.drewN nq)).grown hg5 (fun k _ hk => by cases hk; exact Or.inr ⟨n, by omega, HX.out⟩))
          clear hm5 hg5
          go_wp2_with fail
          refine leaves_cons (f := 33) (args := #[.pointer (some ⟨B, 0, none⟩)]) (by simp) (by simp [go_sem]) ?_
          refine (unlock_any HB5.out .returning).mono ?_
          rintro eZ uZ wZ ⟨rfl, rfl, hbZ, hfZ⟩
          refine ⟨_, results_tmp rfl _ _ _, ?_⟩
          rw [E0.out, E2.out]
          exact ⟨rfl, Lf.mk' hbZ (HF5.out.trans (ow_B hfZ))⟩

set_option maxHeartbeats 2000000 in
set_option maxRecDepth 100000 in
theorem relM_any {w : World} {B : Nat} {m : Nat → Option Nat} {b : Bo} (h : Bk w 0 B m b) (o e : Int) (he : fits e) :
    Calls Try.prog 29 #[.pointer (some ⟨B, 0, none⟩), .int .i64 o, .int .i64 e] w fun x w' => x = .returned (.int .i64 (relErr b o e)) ∧ Lf w w' B m (relB b o e) := by
  have H := hid h
  have HE := hid he
  cases hm : may o with
  | false =>
    have e0 : relErr b o e = 1 := by simp [relErr, hm]
    have e2 : relB b o e = b := by simp [relB, e0]
    rw [e0, e2]
    clear h e0 e2 he
    go_enter Try.func29, Try.ntmps29
    go_wp2_with fail
    refine (may_any o _).mono ?_
    rintro e w1 ⟨rfl, rfl⟩
    rw [hm]
    go_wp2_with fail
    go_ret
    exact ⟨rfl, Lf.mk' H.out (Fr.refl _ _)⟩
  | true =>
    obtain ⟨n, rfl, hn1, hn2⟩ := nat_of hm
    have hn3 : (n : Int) < 65 := by omega
    clear h he
    go_enter_defers Try.func29, Try.ntmps29
    go_wp2_with fail
    refine (may_any n _).mono ?_
    rintro e w1 ⟨rfl, rfl⟩
    rw [hm]
    go_wp2_with fail
    refine (lock_any H.out).mono ?_
    rintro e w2 ⟨rfl, hb1, hf1⟩
    have HB := hid hb1
    have HF := hid hf1
    obtain ⟨x, hx, c4, c5⟩ := hb1.hand (show n < 65 by omega)
    have hlt := hb1.lt
    have HX := hid hx
    clear hb1 hf1 hx
    go_wp2_with fail
    refine (has_any (HB.out.ms (by omega) HX.out) (fits_wf HE.out)).mono ?_
    rintro xe w3 ⟨rfl, hf3⟩
    have hb3 := HB.out.step hf3
    have HB3 := hid hb3
    have HF3 := hid (HF.out.trans (hf3.mono (fun _ _ h => h.elim)))
    have c43 : w3.cell? ⟨B, 4 + n * 2, none⟩ = some (.map (some x)) := by obtain ⟨x', hx', c, _⟩ := hb3.hand (show n < 65 by omega); rw [HX.out] at hx'; cases hx'; exact c
    have hlt3 := hb3.lt
    clear hb3 hf3 c4 c5 hlt
    cases hh : hasB (b.sets n) e with
    | false =>
      have e0 : relErr b n e = 33 := by simp [relErr, hm, hh]
      have E2 := hid (show relB b n e = b by simp [relB, e0])
      have E0 := hid e0
      clear e0
      go_wp2_with fail
      refine leaves_cons (f := 33) (args := #[.pointer (some ⟨B, 0, none⟩)]) (by simp) (by simp [go_sem]) ?_
      refine (unlock_any HB3.out .returning).mono ?_
      rintro eZ uZ wZ ⟨rfl, rfl, hbZ, hfZ⟩
      refine ⟨_, results_tmp rfl _ _ _, ?_⟩
      rw [E0.out, E2.out]
      exact ⟨rfl, Lf.mk' hbZ (ow_B (HF3.out.trans hfZ))⟩
    | true =>
      have e0 : relErr b n e = 0 := by simp [relErr, hm, hh]
      have E2 := hid (show relB b n e = loose { b with sets := upd b.sets n (del e (b.sets n)) } e by simp [relB, e0])
      have E0 := hid e0
      have HM := hid (hasB_true.1 hh)
      clear e0
      obtain ⟨w4, hrun, hm4, hg4⟩ := (HB3.out.ms (show n ≤ 66 by omega) HX.out).drop (HB3.out.wf.ri n) (fits_wf HE.out) 0
      have hrun' : ∀ ty, (Builtin.delete_ #[61, 3] ty #[.map (some x), .int .i64 e]).run Try.prog w3 = .ok (.tuple #[]) w4 := fun ty => hrun
      have HB4 := hid (HB3.out.turn (by omega) HX.out hg4 hm4 (HB3.out.wf.put (ri_del (HB3.out.wf.ri n)) (fun y hy => HB3.out.wf.lo n y (mem_del.1 hy).1) (fun _ => by
        have h1 := del_len (e := e) (HB3.out.wf.ri n)
        have h2 := HB3.out.wf.few n (by omega)
        split at h1 <;> omega)))
      have HF4 := hid ((ow_B (m := m) HF3.out).grown hg4 (fun k _ hk => by cases hk; exact Or.inr ⟨n, by omega, HX.out⟩))
      clear hm4 hg4 hrun
      go_wp2_with fail
      have hlo := HB3.out.wf.lo n e HM.out
      refine (let_any HB4.out hlo.1 hlo.2).mono ?_
      rintro xe w5 ⟨rfl, hb5, hf5⟩
      have HB5 := hid hb5
      have HF5 := hid (HF4.out.trans hf5)
      clear hb5 hf5
      go_wp2_with fail
      refine leaves_cons (f := 33) (args := #[.pointer (some ⟨B, 0, none⟩)]) (by simp) (by simp [go_sem]) ?_
      refine (unlock_any HB5.out .returning).mono ?_
      rintro eZ uZ wZ ⟨rfl, rfl, hbZ, hfZ⟩
      refine ⟨_, results_tmp rfl _ _ _, ?_⟩
      rw [E0.out, E2.out]
      exact ⟨rfl, Lf.mk' hbZ (HF5.out.trans (ow_B hfZ))⟩

set_option maxHeartbeats 2000000 in
set_option maxRecDepth 100000 in
theorem doneM_any {w : World} {B : Nat} {m : Nat → Option Nat} {b : Bo} (h : Bk w 0 B m b) (o : Int) :
    Calls Try.prog 41 #[.pointer (some ⟨B, 0, none⟩), .int .i64 o] w fun x w' => x = .returned (.int .i64 (doneErr b o)) ∧ Lf w w' B m (doneB b o) := by
  have H := hid h
  cases hm : may o with
  | false =>
    have e0 : doneErr b o = 1 := by simp [doneErr, hm]
    have e2 : doneB b o = b := by simp [doneB, e0]
    rw [e0, e2]
    clear h e0 e2
    go_enter Try.func41, Try.ntmps41
    go_wp2_with fail
    refine (may_any o _).mono ?_
    rintro e w1 ⟨rfl, rfl⟩
    rw [hm]
    go_wp2_with fail
    go_ret
    exact ⟨rfl, Lf.mk' H.out (Fr.refl _ _)⟩
  | true =>
    obtain ⟨n, rfl, hn1, hn2⟩ := nat_of hm
    have hn3 : (n : Int) < 65 := by omega
    have HI := hid (h.wf.inn n)
    clear h
    go_enter_defers Try.func41, Try.ntmps41
    go_wp2_with fail
    refine (may_any n _).mono ?_
    rintro e w1 ⟨rfl, rfl⟩
    rw [hm]
    go_wp2_with fail
    refine (lock_any H.out).mono ?_
    rintro e w2 ⟨rfl, hb1, hf1⟩
    have HB := hid hb1
    have HF := hid hf1
    obtain ⟨x, hx, c4, c5⟩ := hb1.hand (show n < 65 by omega)
    have hlt := hb1.lt
    have HX := hid hx
    clear hb1 hf1 hx
    by_cases t1 : b.inn n = 0
    · have e0 : doneErr b n = 44 := by simp [doneErr, hm, t1]
      have E2 := hid (show doneB b n = b by simp [doneB, e0])
      have E0 := hid e0
      clear e0
      go_wp2_with fail
      refine leaves_cons (f := 33) (args := #[.pointer (some ⟨B, 0, none⟩)]) (by simp) (by simp [go_sem]) ?_
      refine (unlock_any HB.out .returning).mono ?_
      rintro eZ uZ wZ ⟨rfl, rfl, hbZ, hfZ⟩
      refine ⟨_, results_tmp rfl _ _ _, ?_⟩
      rw [E0.out, E2.out]
      exact ⟨rfl, Lf.mk' hbZ (ow_B (HF.out.trans hfZ))⟩
    · have e0 : doneErr b n = 0 := by simp [doneErr, hm, t1]
      have E2 := hid (show doneB b n = { loose b (b.inn n) with inn := upd (loose b (b.inn n)).inn n 0 } by simp [doneB, e0, loose_inn])
      have E0 := hid e0
      have T1 := hid t1
      clear e0
      go_wp2_with fail
      have hi := HI.out
      refine (let_any HB.out (by have := T1.out; omega) hi.2).mono ?_
      rintro xe w3 ⟨rfl, hb3, hf3⟩
      have HB3 := hid hb3
      have HF3 := hid ((ow_B (m := m) HF.out).trans hf3)
      obtain ⟨x', hx', _, c53⟩ := hb3.hand (show n < 65 by omega)
      have f5 := hb3.free (4 + n * 2 + 1)
      have hlt3 := hb3.lt
      clear hb3 hf3 hx' c4 c5 hlt hi
      go_wp2_with fail
      have HB4 := hid (HB3.out.setInn (n := n) (by omega) (v := 0) (by have := HB3.out.wf.now; omega))
      refine leaves_cons (f := 33) (args := #[.pointer (some ⟨B, 0, none⟩)]) (by simp) (by simp [go_sem]) ?_
      refine (unlock_any HB4.out .returning).mono ?_
      rintro eZ uZ wZ ⟨rfl, rfl, hbZ, hfZ⟩
      refine ⟨_, results_tmp rfl _ _ _, ?_⟩
      rw [E0.out, E2.out]
      exact ⟨rfl, Lf.mk' hbZ ((HF3.out.trans (ow_B (fr_poke _ _ _ _))).trans (ow_B hfZ))⟩
end Go.Proofs.Ytimefcmemklhpaa.E
