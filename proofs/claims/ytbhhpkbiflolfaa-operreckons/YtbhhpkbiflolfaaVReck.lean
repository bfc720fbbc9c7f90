/- OperReckons: the walk. -/
import Derived.Test.YtbhhpkbiflolfaaVKnown
import Derived.Test.YtbhhpkbiflolfaaARefRA
import Derived.Test.YtbhhpkbiflolfaaARkA
import Derived.Test.YtbhhpkbiflolfaaAIsA
namespace Go.Proofs.Ytbhhpkbiflolfaa
open Go.RowKit

theorem vs1_litR (w : World) : Vs (w.alloc (.cells #[.int .i64 1, .int .i64 1, .int .i64 0] 49)) (.slice (some ⟨w.heap.size, 0, none⟩) 1 1) [⟨1, 1, 0⟩] := by
  have h := A.heap_last w (.cells #[.int .i64 1, .int .i64 1, .int .i64 0] 49) _ rfl
  refine ⟨_, _, rfl, by decide, fun _ => ⟨w.heap.size, 0, rfl, fun i hi => ?_⟩⟩
  match i, hi with
  | 0, _ => refine ⟨?_, ?_, ?_⟩ <;> (rw [cell_of_row _ _ _ _ _ (0, 0) h]; rfl)
theorem right_zero {a : A.Ag} (h : A.rightB a.c a.s a.lo a.hi = true) (hc : a.c = 0) : a.s = 0 := by
  unfold A.rightB at h
  rw [if_pos (by omega)] at h
  simp at h
  omega
theorem ag_at (w W : World) (a : A.Ag) (h : Fr (w.alloc (.cells #[.int .i64 a.c, .int .i64 a.s, .int .i64 a.lo, .int .i64 a.hi] 46)) W (fun _ => False)) : A.AgAt W w.heap.size a :=
  A.AgAt.fr (A.heap_last w _ _ rfl) h (fun h => h)
set_option maxHeartbeats 4000000 in
set_option maxRecDepth 100000 in
theorem reckons_walk (a : A.Ag) (ha : a.ok) (x : Int) (hx : A.fits x) (w : World) : Calls Try.prog 4 #[.agg #[.int .i64 a.c, .int .i64 a.s, .int .i64 a.lo, .int .i64 a.hi], .int .i64 x] w fun e w' => e = .returned (.bool true) ∧ Fr w w' (fun _ => False) := by
  have HA := A.hid (fun W h => ag_at w W a h)
  have HF0 := A.hid (alloc_fr w (.cells #[.int .i64 a.c, .int .i64 a.s, .int .i64 a.lo, .int .i64 a.hi] 46) (fun _ => False))
  have HR := A.hid (fun W : World => A.rright_any a ha W)
  have H0 := A.hid (fun h hc => right_zero (a := a) h hc)
  have HN := A.hid (fun W : World => V.onew_ok (vs1_litR W) (by decide) (n := 1) (by decide) (by decide))
  have HQ := A.hid (fun (o : Value) (W : World) => A.reckon_any o a x ha hx W)
  have HP := A.hid (fun (h : a.c = 0 → a.s = 0) (W : World) => A.rput_any a x ha hx h W)
  generalize A.rightB a.c a.s a.lo a.hi = b at *
  clear ha hx
  go_enter Try.func4, Try.ntmps4
  go_wp2_with fail
  refine (V.known_any _).mono ?_
  rintro e w1 ⟨rfl, hf⟩
  obtain ⟨c1, c2, c3, c4, _⟩ := (HA.out w1 hf).cells
  have HF1 := A.hid hf
  clear hf
  go_wp2_with fail
  refine (HR.out _).mono ?_
  rintro e w2 ⟨rfl, hf⟩
  have HF2 := A.hid (HF1.out.trans hf)
  clear hf c1 c2 c3 c4 HF1 HR
  cases b with
  | false =>
    clear H0 HN HQ HP
    go_wp2_with fail
    refine (V.known_any _).mono ?_
    rintro e w3 ⟨rfl, hf⟩
    have HF3 := A.hid (HF0.out.trans (HF2.out.trans hf))
    clear hf
    go_wp2_with fail
    go_ret
    exact ⟨rfl, HF3.out⟩
  | true =>
    have HP := A.hid (fun W : World => HP.out (H0.out rfl) W)
    clear H0
    go_wp2_with fail
    refine (HN.out _).mono ?_
    rintro e w3 ⟨y, rfl, _, _, hf⟩
    have HF3 := A.hid (HF2.out.trans ((alloc_fr _ _ (fun _ => False)).trans hf))
    clear hf HF2 HN
    obtain ⟨c1, c2, c3, c4, _⟩ := (HA.out w3 HF3.out).cells
    go_wp2_with fail
    refine (HQ.out _ _).mono ?_
    rintro e w4 ⟨hf, hr⟩
    have HF4 := A.hid (HF3.out.trans hf)
    clear hf HQ c1 c2 c3 c4 HF3
    obtain ⟨c1, c2, c3, c4, _⟩ := (HA.out w4 HF4.out).cells
    have hl := (HA.out w4 HF4.out).lt
    generalize A.putE a x = r at *
    cases r with
    | ok r =>
      have hr := hr.symm
      subst hr
      go_wp2_with fail
      refine (HP.out _).mono ?_
      rintro e w5 ⟨hr, hf⟩
      have hr := (show e = _ from hr).symm
      subst hr
      have HR5 : A.AgAt w5 w4.heap.size r := A.AgAt.fr (A.heap_last w4 _ _ rfl) hf (fun h => h)
      have HF5 := A.hid (HF0.out.trans (HF4.out.trans ((alloc_fr _ _ (fun _ => False)).trans hf)))
      obtain ⟨d1, d2, d3, d4, _⟩ := HR5.cells
      have hl5 := HR5.lt
      clear hf HR5 HP HA HF0 HF4
      go_wp2_with fail
      go_ret
      exact ⟨rfl, (HF5.out.alloc _).alloc _⟩
    | error p =>
      obtain ⟨b, rfl, hb, hge⟩ := hr
      unfold A.overV
      clear hb hge
      go_wp2_with fail
      refine (HP.out _).mono ?_
      rintro e w5 ⟨hr, hf⟩
      have hr := (show e = _ from hr).symm
      subst hr
      have HR5 : A.AgAt w5 w4.heap.size ⟨0, 0, 0, 0⟩ := A.AgAt.fr (A.heap_last w4 _ _ rfl) hf (fun h => h)
      have HF5 := A.hid (HF0.out.trans (HF4.out.trans ((alloc_fr _ _ (fun _ => False)).trans hf)))
      obtain ⟨d1, d2, d3, d4, _⟩ := HR5.cells
      have hl5 := HR5.lt
      clear hf HR5 HP HA HF0 HF4
      go_wp2_with fail
      refine (A.is_over b _).mono ?_
      rintro e w6 ⟨rfl, rfl⟩
      go_wp2_with fail
      go_ret
      exact ⟨rfl, (HF5.out.alloc _).alloc _⟩
end Go.Proofs.Ytbhhpkbiflolfaa
