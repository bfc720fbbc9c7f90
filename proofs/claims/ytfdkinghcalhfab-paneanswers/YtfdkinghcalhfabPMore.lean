/- Windows by number, views that stand, within, First: what more than one law leans on. -/
import Derived.Test.YtfdkinghcalhfabPSame
import Derived.Laws.AppendOwnNone
import Derived.OwnWalk
namespace Go.Proofs.Ytfdkinghcalhfab
open Go.RowKit

theorem info_parts {o : Option TypeInfo} {z : Value} {n b : Nat} (h : o.map (fun i => (i.zero, i.size, i.bytes)) = some (some z, n, b)) : ∃ i, o = some i ∧ i.zero = some z ∧ i.size = n ∧ i.bytes = b := by
  obtain ⟨i, hi, hx⟩ := Option.map_eq_some_iff.1 h
  simp only [Prod.mk.injEq] at hx
  exact ⟨i, hi, hx.1, hx.2.1, hx.2.2⟩
theorem num_test {s d t : Int} (hs : 1 ≤ s) (hd : 1 ≤ d) (i : Nat) : i < numP s d t ↔ (oldK s d t + (i : Int)) * d ≤ t := by
  have hk := oldK_div (t := t) hs hd
  have hn := div_near (t := t) hd
  constructor
  · intro h
    have h1 : oldK s d t + (i : Int) ≤ t / d := by unfold numP at h; omega
    have := mul_mono h1 (show 0 ≤ d by omega)
    omega
  · intro h
    have h1 : ¬ t / d + 1 ≤ oldK s d t + (i : Int) := by
      intro h1
      have := mul_mono h1 (show 0 ≤ d by omega)
      rw [Int.add_mul, Int.one_mul] at this
      omega
    unfold numP
    omega
theorem take_step {s d t : Int} {i : Nat} (h : i < numP s d t) : (startsL s d t).take (i + 1) = (startsL s d t).take i ++ [(oldK s d t + (i : Int)) * d] := by
  rw [List.take_add_one, ← startsL_get h]
  simp [List.getD, startsL_length, h]

theorem startsL_fits {s d l t : Int} (h : OkV s d l) (ht : Ti t) : ∀ x ∈ startsL s d t, fits x := by
  intro x hx
  obtain ⟨k, _, h1, h2⟩ := (startsL_mem h.s1 h.d1).1 hx
  have := h.s2
  unfold Ti at ht
  unfold fits
  omega
theorem startsL_short {s d l t : Int} (h : OkV s d l) : (startsL s d t).length ≤ 64 := by rw [startsL_length]; exact numP_le h.sd h.d1
theorem nil_is (w : World) : Is w (.slice none 0 0) [] := ⟨none, 0, rfl, by simp, by simp, fun h => absurd rfl h⟩

/-- A view stands at a block, and nothing old has turned. -/
structure VF (w : World) (s d l : Int) (W : World) : Prop where
  vw : VwAt W w.heap.size s d l
  fr : Fr w W (fun _ => False)
theorem VF.step {w : World} {s d l : Int} {W W' : World} (h : VF w s d l W) (hf : Fr W W' (fun _ => False)) : VF w s d l W' := ⟨h.vw.fr hf (fun h => h), h.fr.trans hf⟩
theorem VF.drew {w : World} {s d l : Int} {W : World} (h : VF w s d l W) : VF w s d l W.drew := h.step (Fr.refl W _).drew
theorem VF.alloc {w : World} {s d l : Int} {W : World} (h : VF w s d l W) (o : Obj) : VF w s d l (W.alloc o) := h.step (alloc_fr W o _)
theorem VF.new (w : World) (s d l : Int) : VF w s d l (w.alloc (.cells #[.int .i64 s, .int .i64 d, .int .i64 l] 23)) := ⟨VwAt.new w s d l, alloc_fr _ _ _⟩

theorem oldK_later {s d t : Int} (hd : 1 ≤ d) : oldK s d (t + d) = oldK s d t + 1 := by
  unfold oldK
  have e : t + d - s = t - s + 1 * d := by omega
  rw [e, Int.add_mul_ediv_right _ _ (by omega)]
theorem numP_later {s d t : Int} (hd : 1 ≤ d) : numP s d (t + d) = numP s d t := by
  unfold numP
  rw [oldK_later hd]
  have e : t + d = t + 1 * d := by omega
  rw [e, Int.add_mul_ediv_right _ _ (by omega)]
  omega
theorem numP_count {s d t : Int} (hs : 1 ≤ s) (hd : 1 ≤ d) : (numP s d t : Int) = s / d ∨ ((numP s d t : Int) = s / d + 1 ∧ ¬ s % d = 0) := by
  have hk := oldK_div (t := t) hs hd
  have e : (numP s d t : Int) = t / d - (t - s) / d := by unfold numP oldK; unfold oldK at hk; omega
  have h1 := Int.emod_add_mul_ediv t d
  have h2 := Int.emod_add_mul_ediv s d
  have h3 := Int.emod_nonneg t (show d ≠ 0 by omega)
  have h4 := Int.emod_lt_of_pos t (show 0 < d by omega)
  have h5 := Int.emod_nonneg s (show d ≠ 0 by omega)
  have h6 := Int.emod_lt_of_pos s (show 0 < d by omega)
  rw [e]
  by_cases hc : s % d ≤ t % d
  · left
    have : (t - s) / d = t / d - s / d := by
      refine (Int.ediv_emod_unique (r := t % d - s % d) (by omega)).2 ⟨?_, by omega, by omega⟩ |>.1
      rw [Int.mul_sub]
      omega
    omega
  · right
    have : (t - s) / d = t / d - s / d - 1 := by
      refine (Int.ediv_emod_unique (r := t % d - s % d + d) (by omega)).2 ⟨?_, by omega, by omega⟩ |>.1
      rw [Int.mul_sub, Int.mul_sub]
      omega
    omega
theorem within_any (t : Int) (w : World) : Calls Try.prog 9 #[.int .i64 t] w fun e w' => e = .returned (.int .i64 (t.tmod 576460752303423488)) ∧ w' = w := by
  go_enter Try.func9, Try.ntmps9
  go_wp2
  go_ret
  exact ⟨rfl, rfl⟩
theorem within_bd (t : Int) : -576460752303423488 < t.tmod 576460752303423488 ∧ t.tmod 576460752303423488 < 576460752303423488 := ⟨Int.lt_tmod_of_pos t (by decide), Int.tmod_lt_of_pos t (by decide)⟩
/-- A mark that may be. -/
def Mk (m : Int) : Prop := -4611686018427387904 ≤ m ∧ m ≤ 4611686018427387904

theorem oldK_near {s d t : Int} (hd : 1 ≤ d) (hs : 1 ≤ s) : t < oldK s d t * d + s ∧ oldK s d t * d ≤ t + d := by
  refine ⟨(oldK_le hd).1 (Int.le_refl _), ?_⟩
  have := mul_mono (oldK_div (t := t) hs hd) (show 0 ≤ d by omega)
  rw [Int.add_mul, Int.one_mul] at this
  have := (div_near (t := t) hd).1
  omega
set_option maxHeartbeats 1000000 in
theorem first_any {s d l m : Int} (h : OkV s d l) (hm : Mk m) (w : World) : Calls Try.prog 14 #[.agg #[.int .i64 s, .int .i64 d, .int .i64 l], .int .i64 m] w fun e w' => e = .returned (.int .i64 (oldK s d (m - l) * d)) ∧ Fr w w' (fun _ => False) := by
  obtain ⟨hm1, hm2⟩ := hm
  have hl1 := h.l1
  have hl2 := h.l2
  have HC := hid (fun W : World => check_ok h W)
  have HO := hid (fun W : World => oldest_any (t := m - l) h (by unfold Tm; omega) W)
  clear h
  go_enter Try.func14, Try.ntmps14
  go_wp2_with fail
  refine (HC.out _).mono ?_
  rintro e w1 ⟨rfl, hf1⟩
  have HV1 := hid ((VwAt.new w s d l).fr hf1 (fun h => h))
  have HF1 := hid ((alloc_fr w _ _).trans hf1)
  clear hf1
  obtain ⟨c0, c1, c2⟩ := HV1.out.cells
  have hlt := HV1.out.lt
  go_wp2_with fail
  refine (HO.out _).mono ?_
  rintro e w2 ⟨rfl, hf2⟩
  have HF2 := hid (HF1.out.trans hf2)
  clear hf2
  go_wp2_with fail
  go_ret
  exact ⟨rfl, HF2.out⟩
end Go.Proofs.Ytfdkinghcalhfab
