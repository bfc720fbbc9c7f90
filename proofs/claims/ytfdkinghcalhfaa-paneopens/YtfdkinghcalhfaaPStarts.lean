/- The law PaneStarts: its walk. -/
import Derived.Test.YtfdkinghcalhfaaPRef
namespace Go.Proofs.Ytfdkinghcalhfaa
open Go.RowKit

/-- What Starts answers, and the document's. -/
def Tells (f : FuncId) (args : Array Value) (xs : List Int) (r : Int) : Prop := ∀ w : World, Calls Try.prog f args w fun e w' => ∃ v, e = .returned (.tuple #[v, .int .i64 r]) ∧ Is w' v xs ∧ Fr w w' (fun _ => False)
theorem starts_both (s d l t : Int) : ∃ (xs : List Int) (r : Int), Tells 12 #[.agg #[.int .i64 s, .int .i64 d, .int .i64 l], .int .i64 t] xs r ∧ Tells 13 #[.agg #[.int .i64 s, .int .i64 d, .int .i64 l], .int .i64 t] xs r := by
  by_cases h : OkV s d l
  · by_cases ht : Ti t
    · have hl := startsL_short (t := t) h
      have hf := startsL_fits h ht
      refine ⟨startsL s d t, 0, fun w => ?_, fun w => ?_⟩
      · refine (starts_ok h ht w).mono ?_
        rintro e w' ⟨b, rfl, _, hr, hfr⟩
        exact ⟨_, rfl, row_is hr hf (by omega) _, hfr⟩
      · refine (refStarts_ok h ht w).mono ?_
        rintro e w' ⟨v, rfl, ho, hfr⟩
        exact ⟨_, rfl, own_is ho hf (by omega), hfr⟩
    · refine ⟨[], 22, fun w => ?_, fun w => ?_⟩
      · refine (starts_late h ht w).mono ?_
        rintro e w' ⟨rfl, hfr⟩
        exact ⟨_, rfl, nil_is _, hfr⟩
      · refine (refStarts_late h ht w).mono ?_
        rintro e w' ⟨rfl, hfr⟩
        exact ⟨_, rfl, nil_is _, hfr⟩
  · refine ⟨[], 23, fun w => ?_, fun w => ?_⟩
    · refine (starts_bad h w).mono ?_
      rintro e w' ⟨rfl, hfr⟩
      exact ⟨_, rfl, nil_is _, hfr⟩
    · refine (refStarts_bad h w).mono ?_
      rintro e w' ⟨rfl, hfr⟩
      exact ⟨_, rfl, nil_is _, hfr⟩

set_option maxHeartbeats 1000000 in
theorem paneStarts_walk (s d l t : Int) (_ : fits s) (_ : fits d) (_ : fits l) (_ : fits t) (w : World) : Calls Try.prog 5 #[.agg #[.int .i64 s, .int .i64 d, .int .i64 l], .int .i64 t] w fun e w' => e = .returned (.bool true) ∧ Fr w w' (fun _ => False) := by
  obtain ⟨xs, r, h1, h2⟩ := starts_both s d l t
  have H1 := hid h1
  have H2 := hid h2
  clear h1 h2
  go_enter Try.func5, Try.ntmps5
  go_wp2_with fail
  refine (H1.out _).mono ?_
  rintro e w1 ⟨v1, rfl, hi1, hf1⟩
  have HV1 := hid ((VwAt.new w s d l).fr hf1 (fun h => h))
  have HF1 := hid ((alloc_fr w _ _).trans hf1)
  have HI1 := hid hi1
  clear hf1 hi1
  obtain ⟨c0, c1, c2⟩ := HV1.out.cells
  have hlt := HV1.out.lt
  go_wp2_with fail
  refine (H2.out _).mono ?_
  rintro e w2 ⟨v2, rfl, hi2, hf2⟩
  have HS := hid (same_true v1 v2 xs w2 (HI1.out.fr hf2) hi2)
  have HF2 := hid (HF1.out.trans hf2)
  clear hf2 hi2 c0 c1 c2 hlt
  go_wp2_with fail
  refine HS.out.mono ?_
  rintro e w3 ⟨rfl, hf3⟩
  have HF3 := hid (HF2.out.trans hf3)
  clear hf3
  go_wp2_with fail
  refine (head_any _).mono ?_
  rintro e w4 ⟨rfl, hf4⟩
  have HF4 := hid (HF3.out.trans hf4)
  clear hf4
  go_wp2_with fail
  go_ret
  exact ⟨rfl, HF4.out⟩
end Go.Proofs.Ytfdkinghcalhfaa
