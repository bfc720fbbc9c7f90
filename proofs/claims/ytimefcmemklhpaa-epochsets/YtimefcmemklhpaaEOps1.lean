/- mayOwn, seal, pinnedBySome, letGo: walks. -/
import Derived.Test.YtimefcmemklhpaaEBook
namespace Go.Proofs.Ytimefcmemklhpaa.E
open Go.RowKit Go.Maps Go.MuLone

/-- All hands as one value. -/
def hcs (lk : Int) (b : Bo) (m : Nat → Option Nat) : List Value := (List.range 130).map (fun j => bc lk b m (4 + j))
theorem hcs_len (lk : Int) (b : Bo) (m : Nat → Option Nat) : (hcs lk b m).length = 130 := by simp [hcs]
theorem hcs_get {lk : Int} {b : Bo} {m : Nat → Option Nat} {j : Nat} (hj : j < 130) : (hcs lk b m)[j]? = some (bc lk b m (4 + j)) := by simp [hcs, List.getElem?_range hj]
theorem Bk.range {w : World} {lk : Int} {B : Nat} {m : Nat → Option Nat} {b : Bo} (h : Bk w lk B m b) : w.rangeAt B 4 (hcs lk b m) := by
  intro j v hj
  have hlt : j < 130 := by
    have := (List.getElem?_eq_some_iff.1 hj).1
    rwa [hcs_len] at this
  rw [hcs_get hlt] at hj
  cases hj
  exact h.get (by omega)
theorem hands_info (lk : Int) (b : Bo) (m : Nat → Option Nat) : (Try.prog.info? 73).map (·.size) = some (hcs lk b m).length := by rw [hcs_len]; kernel_rfl
theorem Bk.hands {w : World} {lk : Int} {B : Nat} {m : Nat → Option Nat} {b : Bo} (h : Bk w lk B m b) : (Instr.loadAt 73 (.pointer (some ⟨B, 4, none⟩))).run Try.prog w = .ok (.agg (hcs lk b m).toArray) w := by
  exact run_loadAt_mid w B 4 73 (hcs lk b m) _ h.range Try.underlying73 rfl (hands_info lk b m)
theorem hand_size (w : World) : (sizeOf 72).run Try.prog w = .ok 2 w := by kernel_rfl
theorem hand_agg (w : World) : (isAgg 72).run Try.prog w = .ok true w := by kernel_rfl
/-- One of them. -/
theorem hand_at (lk : Int) (b : Bo) (m : Nat → Option Nat) (W : World) (i : Nat) (hi : i < 65) : (Instr.index 73 (.agg (hcs lk b m).toArray) (.int .i64 (i : Int))).run Try.prog W = .ok (.agg #[.map (m i), .int .i64 (b.inn i)]) W := by
  have e : (hcs lk b m).toArray.extract (i * 2) (i * 2 + 2) = #[.map (m i), .int .i64 (b.inn i)] := by
    apply Array.ext'
    simp only [List.extract_toArray, List.extract_eq_take_drop]
    apply List.ext_getElem?
    intro j
    rw [List.getElem?_take, List.getElem?_drop]
    by_cases h0 : j = 0
    · subst h0
      rw [if_pos (by omega), hcs_get (by omega), show 4 + (i * 2 + 0) = 4 + i * 2 by omega, bc_map hi]
      rfl
    · by_cases h1 : j = 1
      · subst h1
        rw [if_pos (by omega), hcs_get (by omega), show 4 + (i * 2 + 1) = 4 + i * 2 + 1 by omega, bc_inn hi]
        rfl
      · rw [if_neg (by omega)]
        simp
        omega
  have h1 : (0 : Int) ≤ (i : Int) := by omega
  have h2 : (i : Int) < ((65 : Nat) : Int) := by omega
  unfold Instr.index part
  simp only [asIntOf, Sem.run_bind, Sem.run_pure, Result.andThen_ok, run_underlying Try.underlying73]
  rw [if_pos ⟨h1, h2⟩]
  simp only [Sem.run_bind, Sem.run_pure, Result.andThen_ok, hand_size, hand_agg, if_true, Int.toNat_natCast, e]

set_option maxHeartbeats 1000000 in
theorem may_any (o : Int) (w : World) : Calls Try.prog 49 #[.int .i64 o] w fun e w' => e = .returned (.bool (may o)) ∧ w' = w := by
  by_cases h1 : 1 ≤ o
  · by_cases h2 : o ≤ 64
    · have e : may o = true := by simp [may, h1, h2]
      rw [e]
      go_enter Try.func49, Try.ntmps49
      go_wp2_with fail
      go_ret
      exact ⟨rfl, rfl⟩
    · have e : may o = false := by simp [may, h2]
      rw [e]
      go_enter Try.func49, Try.ntmps49
      go_wp2_with fail
      go_ret
      exact ⟨rfl, rfl⟩
  · have e : may o = false := by simp [may, h1]
    rw [e]
    go_enter Try.func49, Try.ntmps49
    go_wp2_with fail
    go_ret
    exact ⟨rfl, rfl⟩

set_option maxHeartbeats 1000000 in
theorem seal_any {w : World} {lk : Int} {B : Nat} {m : Nat → Option Nat} {b : Bo} (h : Bk w lk B m b) (hn : b.now < 1099511627776) :
    Calls Try.prog 57 #[.pointer (some ⟨B, 0, none⟩)] w fun e w' => e = .returned (.tuple #[.int .i64 b.now, .int .i64 0]) ∧ Bk w' lk B m { b with now := b.now + 1 } ∧ Fr w w' (fun k => k = B) := by
  have c3 : w.cell? ⟨B, 3, none⟩ = some (.int .i64 b.now) := h.get (by omega)
  have f3 := h.free 3
  have hw := h.wf.now
  have hlt := h.lt
  have H := hid h
  have HN := hid hn
  obtain ⟨n, hN⟩ : ∃ n, n = b.now := ⟨_, rfl⟩
  rw [← hN] at c3 hn hw
  have HE := hid hN
  clear h hN
  go_enter Try.func57, Try.ntmps57
  go_wp2_with fail
  go_ret2
  rw [HE.out]
  refine ⟨rfl, ?_, fr_poke _ _ _ _⟩
  refine H.out.poke (by omega) (fun q _ => ?_) H.out.map H.out.som H.out.apart (H.out.wf.next HN.out)
  unfold bc
  by_cases e : q = 3
  · subst e; simp
  · simp [e]
set_option maxHeartbeats 1000000 in
theorem seal_many {w : World} {lk : Int} {B : Nat} {m : Nat → Option Nat} {b : Bo} (h : Bk w lk B m b) (hn : 1099511627776 ≤ b.now) :
    Calls Try.prog 57 #[.pointer (some ⟨B, 0, none⟩)] w fun e w' => e = .returned (.tuple #[.int .i64 0, .int .i64 2]) ∧ w' = w := by
  have c3 : w.cell? ⟨B, 3, none⟩ = some (.int .i64 b.now) := h.get (by omega)
  clear h
  go_enter Try.func57, Try.ntmps57
  go_wp2_with fail
  go_ret2
  exact ⟨rfl, rfl⟩

set_option maxHeartbeats 2000000 in
set_option maxRecDepth 100000 in
theorem pinned_any {w : World} {lk : Int} {B : Nat} {m : Nat → Option Nat} {b : Bo} (h : Bk w lk B m b) {e : Int} (he : fits e) :
    Calls Try.prog 59 #[.pointer (some ⟨B, 0, none⟩), .int .i64 e] w fun x w' => x = .returned (.bool (some' b e)) ∧ Fr w w' (fun _ => False) := by
  have HR := hid h.range
  have HNF := hid (hands_info lk b m)
  have hlt := h.lt
  have H := hid h
  have HX := hid (hand_at lk b m)
  have HW := hid (fits_wf he)
  generalize hcs lk b m = hv at *
  clear h he
  go_enter Try.func59, Try.ntmps59
  go_wp2_with (refine wpList_load_mid rfl 73 (.tmp 9) rfl B 4 rfl hv _ HR.out Try.underlying73 rfl HNF.out ?_)
  go_loopg [11] 65 (fun g s11 wx => ∃ i : Nat, s11 = .int .i64 (i : Int) ∧ i + g = 65 ∧ Hid (∀ j, j < i → hasB (b.sets j) e = false) ∧ Hid (Fr w wx (fun _ => False)))
  case atStart => exact ⟨0, rfl, rfl, fun j hj => absurd hj (Nat.not_lt_zero _), Fr.refl _ _⟩
  case round =>
    obtain ⟨i, rfl, hg, HJ, HF⟩ := hrel
    cases gk with
    | zero =>
      have t1 : ¬ (i : Int) < 65 := by omega
      have HI := hid (show i = 65 by omega)
      clear hg
      go_wp2_with fail
      go_ret
      refine ⟨?_, HF.out⟩
      have : some' b e = false := by
        unfold some'
        rw [List.any_eq_false]
        intro j hj
        rw [HJ.out j (by have := HI.out; simp at hj; omega)]
        simp
      rw [this]
      rfl
    | succ g =>
      have hi : i < 65 := by omega
      have t1 : (i : Int) < 65 := by omega
      obtain ⟨x, hx⟩ := H.out.som i (by omega)
      have hix := fun W => HX.out W i hi
      have HM := hid ((H.out.ms (by omega) hx).fr HF.out (fun h => h))
      rw [hx] at hix
      have HG := hid hg
      have HI := hid hi
      clear hg hx
      go_wp2_with fail
      refine (has_any (HM.out.fr (alloc_fr _ _ (fun _ => False)) (fun h => h)) HW.out).mono ?_
      rintro x1 w1 ⟨rfl, hf1⟩
      have HF1 := hid ((HF.out.alloc _).trans hf1)
      clear hf1 HM hix
      cases hb : hasB (b.sets i) e with
      | true =>
        go_wp2_with fail
        go_ret
        refine ⟨?_, HF1.out⟩
        have : some' b e = true := by
          unfold some'
          rw [List.any_eq_true]
          exact ⟨i, by simp; exact HI.out, hb⟩
        rw [this]
        rfl
      | false =>
        go_wp2_with fail
        go_roundg g
        case rel =>
          refine ⟨i + 1, by simp, by have := HG.out; omega, ?_, HF1.out⟩
          intro j hj
          by_cases hji : j = i
          · rw [hji]; exact hb
          · exact HJ.out j (by omega)
        case measure => omega

set_option maxHeartbeats 1000000 in
theorem let_any {w : World} {lk : Int} {B : Nat} {m : Nat → Option Nat} {b : Bo} (h : Bk w lk B m b) {e : Int} (h1 : 1 ≤ e) (h2 : e < b.now) :
    Calls Try.prog 60 #[.pointer (some ⟨B, 0, none⟩), .int .i64 e] w fun x w' => x = .returned (.tuple #[]) ∧ Bk w' lk B m (loose b e) ∧ Fr w w' (ow B m) := by
  have hn := h.wf.now
  have he : fits e := by unfold fits; omega
  have H := hid h
  have HP := hid (pinned_any h he)
  have HE := hid (fits_wf he)
  have H1 := hid h1
  have H2 := hid h2
  clear h he h1 h2 hn
  go_enter Try.func60, Try.ntmps60
  go_wp2_with fail
  refine HP.out.mono ?_
  rintro x w1 ⟨rfl, hf1⟩
  have HB := hid (H.out.step hf1)
  have HF := hid hf1
  clear hf1
  cases hb : some' b e with
  | true =>
    go_wp2_with fail
    go_end0
    refine ⟨rfl, ?_, HF.out.mono (fun _ _ h => h.elim)⟩
    have : loose b e = b := by unfold loose; rw [if_pos hb]
    rw [this]
    exact HB.out
  | false =>
    obtain ⟨x, hx⟩ := H.out.som 65 (by omega)
    have c : w1.cell? ⟨B, 134, none⟩ = some (.map (some x)) := by rw [← hx]; exact HB.out.get (by omega)
    have hlt := HB.out.lt
    have HX := hid hx
    clear hx
    go_wp2_with fail
    have hlen := HB.out.wf.len 65
    refine (add_any (HB.out.ms (by omega) HX.out) (HB.out.wf.ri 65) (by unfold maxLen; omega) HE.out).mono ?_
    rintro x2 w2 ⟨rfl, hm2, hg2⟩
    have HM := hid hm2
    have HG := hid hg2
    clear hm2 hg2
    go_wp2_with fail
    go_end0
    have e1 : loose b e = { b with sets := upd b.sets 65 (ins e (b.sets 65)) } := by unfold loose; rw [if_neg (by rw [hb]; simp)]
    refine ⟨rfl, ?_, ?_⟩
    · rw [e1]
      refine HB.out.turn (by omega) HX.out HG.out HM.out ?_
      rw [← e1]
      exact H.out.wf.loose H1.out H2.out
    · refine (HF.out.mono (fun _ _ h => h.elim)).grown HG.out (fun k _ hk => ?_)
      cases hk
      exact Or.inr ⟨65, by omega, HX.out⟩
end Go.Proofs.Ytimefcmemklhpaa.E
