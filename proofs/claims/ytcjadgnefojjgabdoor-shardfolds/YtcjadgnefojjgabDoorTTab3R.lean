/- table: Move, New, grow: walks. -/
import Derived.Test.YtcjadgnefojjgabDoorTTab2R
namespace Go.Proofs.YtcjadgnefojjgabDoor.R
open Go.RowKit

theorem ones_succ (z : Value) : ∀ (n : Nat) (T : Tb), ones z (n + 1) T = one z (ones z n T)
  | 0, _ => rfl
  | n + 1, T => by
    show ones z (n + 1) (one z T) = one z (ones z n (one z T))
    exact ones_succ z n (one z T)

theorem one_any' {B gr : Nat} {ge : Option Nat} {T : Tb} (w : World) (h : TbAt w B gr ge T) (hm : T.moved < T.elder.length) :
    Calls Tryd.prog 58 #[.pointer (some ⟨B, 0, none⟩)] w fun e w' => e = .returned (.tuple #[]) ∧ TbAt w' B gr ge (one (.agg #[.int .i64 0, .string ⟨#[]⟩, .int .i64 0, .pointer none]) T) ∧ Fr w w' (bl B gr ge) := by
  cases ge with
  | none =>
    obtain ⟨rv, ev, hc, hr, he⟩ := h.ex
    rw [he.1] at hm
    simp at hm
  | some g => exact one_any w h hm

set_option maxHeartbeats 2000000 in
set_option maxRecDepth 100000 in
theorem move_any {B gr : Nat} {ge : Option Nat} {T : Tb} (n : Int) (w : World) (h : TbAt w B gr ge T) :
    Calls Tryd.prog 48 #[.pointer (some ⟨B, 0, none⟩), .int .i64 n] w fun e w' => e = .returned (.int .i64 ((moveT (.agg #[.int .i64 0, .string ⟨#[]⟩, .int .i64 0, .pointer none]) T n).left : Int)) ∧ (∃ ge', TbAt w' B gr ge' (moveT (.agg #[.int .i64 0, .string ⟨#[]⟩, .int .i64 0, .pointer none]) T n) ∧ (ge' = ge ∨ ge' = none)) ∧ Fr w w' (bl B gr ge) := by
  have hlt := h.lt
  have HLf := hid (left_any w h)
  have HT := hid h
  have hel : T.left ≤ 1099511627776 := by have := h.elen; unfold Tb.left; omega
  have hmin : min n (T.left : Int) ≤ (T.left : Int) := by omega
  have HM : Hid (moveT (.agg #[.int .i64 0, .string ⟨#[]⟩, .int .i64 0, .pointer none]) T n = shut (ones (.agg #[.int .i64 0, .string ⟨#[]⟩, .int .i64 0, .pointer none]) (min n (T.left : Int)).toNat T)) := rfl
  have HMi := hid (move_inv (.agg #[.int .i64 0, .string ⟨#[]⟩, .int .i64 0, .pointer none]) h.inv n)
  have hle : (min n (T.left : Int)).toNat ≤ T.left := by omega
  clear h
  go_enter Tryd.func48, Tryd.ntmps48
  go_wp2_with fail
  refine HLf.out.mono ?_
  rintro e w1 ⟨rfl, hf1⟩
  have HT1 := hid (HT.out.step hf1)
  have HF1 := hid (hf1.mono (T := bl B gr ge) (fun _ _ h => h.elim))
  clear hf1 HLf
  generalize hq : min n (T.left : Int) = q at *
  have HQ := hid hq
  clear hq
  have HOs := hid (fun (i : Nat) (hi : i ≤ T.left) => ones_inv (.agg #[.int .i64 0, .string ⟨#[]⟩, .int .i64 0, .pointer none]) i HT.out.inv hi)
  go_wp2_with fail
  all_goals
    go_loopg [9] q.toNat (fun gk s9 wx => ∃ i : Nat, s9 = .int .i64 (i : Int) ∧ Hid (i + gk = q.toNat) ∧ Hid (TbAt wx B gr ge (ones (.agg #[.int .i64 0, .string ⟨#[]⟩, .int .i64 0, .pointer none]) i T)) ∧ Hid (Fr w wx (bl B gr ge)))
    case atStart => exact ⟨0, rfl, by show 0 + q.toNat = _; omega, HT1, HF1⟩
    case round =>
      obtain ⟨i, rfl, HG, HTi, HFi⟩ := hrel
      have hltr := HTi.out.lt
      cases gk with
      | zero =>
        have hi := HG.out
        have hqn := HQ.out
        first
          | have t1 : ¬ (i : Int) < n := by omega
          | have t1 : ¬ (i : Int) < (T.left : Int) := by omega
        have HE := hid (show i = q.toNat by omega)
        clear hi hqn
        have HLi := hid (left_any wr HTi.out)
        go_wp2_with fail
        refine HLi.out.mono ?_
        rintro e w2 ⟨rfl, hf2⟩
        have HT2 := hid (HTi.out.step hf2)
        have HF2 := hid (HFi.out.trans2 hf2 (fun _ _ h => h.elim))
        clear hf2 HLi
        by_cases hz : (ones (.agg #[.int .i64 0, .string ⟨#[]⟩, .int .i64 0, .pointer none]) i T).left = 0
        · rw [hz]
          have HMo : Hid (moveT (.agg #[.int .i64 0, .string ⟨#[]⟩, .int .i64 0, .pointer none]) T n = ⟨(ones (.agg #[.int .i64 0, .string ⟨#[]⟩, .int .i64 0, .pointer none]) i T).row, [], 0, (ones (.agg #[.int .i64 0, .string ⟨#[]⟩, .int .i64 0, .pointer none]) i T).keys⟩) := by
            have := HM.out
            rw [← HE.out] at this
            unfold shut at this
            rw [if_pos hz] at this
            exact this
          clear hz
          have hlt2 := HT2.out.lt
          obtain ⟨rv, ev, hc, hr, he⟩ := HT2.out.ex
          obtain ⟨c0, c1, c2, c3⟩ := cells4 hc
          have f1 := free4 hc 1
          have f2 := free4 hc 2
          have HC := hid hc
          have HR := hid hr
          clear hc hr he
          go_wp2_with fail
          have HTn : Hid (∀ W, W = (w2.setCell ⟨B, 1, none⟩ (.slice none 0 0)).setCell ⟨B, 2, none⟩ (.int .i64 0) → TbAt W B gr none (moveT (.agg #[.int .i64 0, .string ⟨#[]⟩, .int .i64 0, .pointer none]) T n)) := by
            rintro W rfl
            rw [HMo.out]
            have hS : Fr w2 ((w2.setCell ⟨B, 1, none⟩ (.slice none 0 0)).setCell ⟨B, 2, none⟩ (.int .i64 0)) (fun b => b = B) := ((Fr.refl w2 (fun b => b = B)).setCell (p := ⟨B, 1, none⟩) (fun _ => rfl) _).setCell (p := ⟨B, 2, none⟩) (fun _ => rfl) _
            have hI := HMi.out.1.i0
            rw [HMo.out] at hI
            exact ⟨⟨rv, _, set42 (set41 HC.out), HR.out.fr hS (fun g e => by cases e; exact HT2.out.neB.1), rfl, rfl⟩, by simp, hI, HT2.out.rok, fun i hi => by simp at hi, HT2.out.len⟩
          have HTw := hid (HTn.out _ rfl)
          refine (left_any _ HTw.out).mono ?_
          rintro e w3 ⟨rfl, hf3⟩
          have HT3 := hid (HTw.out.step hf3)
          have HF3 := hid (((HF2.out.setCell (p := ⟨B, 1, none⟩) (fun _ => Or.inl rfl) (.slice none 0 0)).setCell (p := ⟨B, 2, none⟩) (fun _ => Or.inl rfl) (.int .i64 0)).trans2 hf3 (fun _ _ h => h.elim))
          clear hf3
          go_wp2_with fail
          go_ret
          exact ⟨rfl, ⟨none, HT3.out, Or.inr rfl⟩, HF3.out⟩
        · have HMo : Hid (moveT (.agg #[.int .i64 0, .string ⟨#[]⟩, .int .i64 0, .pointer none]) T n = ones (.agg #[.int .i64 0, .string ⟨#[]⟩, .int .i64 0, .pointer none]) i T) := by
            have := HM.out
            rw [← HE.out] at this
            unfold shut at this
            rw [if_neg hz] at this
            exact this
          have t2 : (((ones (.agg #[.int .i64 0, .string ⟨#[]⟩, .int .i64 0, .pointer none]) i T).left : Int) == 0) = false := by simp; exact hz
          clear hz
          have HL2 := hid (left_any w2 HT2.out)
          go_wp2_with fail
          refine HL2.out.mono ?_
          rintro e w3 ⟨rfl, hf3⟩
          have HT3 := hid (HT2.out.step hf3)
          have HF3 := hid (HF2.out.trans2 hf3 (fun _ _ h => h.elim))
          clear hf3
          go_wp2_with fail
          go_ret
          rw [HMo.out]
          exact ⟨rfl, ⟨ge, HT3.out, Or.inl rfl⟩, HF3.out⟩
      | succ f =>
        have hi := HG.out
        have hqn := HQ.out
        first
          | (have t1 : (i : Int) < n := by omega)
          | (have t1 : (i : Int) < (T.left : Int) := by omega)
        have t3 : (i : Int) < (T.left : Int) := by omega
        have hm : (ones (.agg #[.int .i64 0, .string ⟨#[]⟩, .int .i64 0, .pointer none]) i T).moved < (ones (.agg #[.int .i64 0, .string ⟨#[]⟩, .int .i64 0, .pointer none]) i T).elder.length := by
          obtain ⟨_, _, a3, a4, _, _⟩ := HOs.out i (by omega)
          rw [a3, a4]
          have : i < T.left := by omega
          unfold Tb.left at this
          omega
        have HOn := hid (one_any' wr HTi.out hm)
        have HSu := hid (ones_succ (.agg #[.int .i64 0, .string ⟨#[]⟩, .int .i64 0, .pointer none]) i T)
        clear hi hqn hm
        go_wp2_with fail
        refine HOn.out.mono ?_
        rintro e w2 ⟨rfl, hT2, hf2⟩
        rw [← HSu.out] at hT2
        have HT2 := hid hT2
        have HF2 := hid (HFi.out.trans hf2)
        clear hT2 hf2
        go_wp2_with fail
        go_roundg f
        case measure => omega
        case rel => exact ⟨i + 1, by go_num, by have := HG.out; show i + 1 + f = q.toNat; omega, HT2, HF2⟩
end Go.Proofs.YtcjadgnefojjgabDoor.R
