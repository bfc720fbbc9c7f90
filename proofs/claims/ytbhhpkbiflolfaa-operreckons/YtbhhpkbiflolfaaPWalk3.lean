/- pane.Starts: the walk. -/
import Derived.Test.YtbhhpkbiflolfaaPWalk2
import Derived.Deep.OwnRows
namespace Go.Proofs.Ytbhhpkbiflolfaa
open Go.RowKit

/-- A time that may be. -/
def Ti (t : Int) : Prop := -1152921504606846976 ≤ t ∧ t ≤ 1152921504606846976
theorem Ti.tm {t : Int} (h : Ti t) : Tm t := by unfold Ti at h; unfold Tm; omega
theorem made_row (n : Nat) : (madeCells #[Value.int .i64 0] n).toList = List.replicate n (Value.int .i64 0) := by
  apply List.ext_getElem
  · simp [madeCells]
  · intro i h1 h2
    simp [madeCells, Nat.mod_one]
/-- The first i starts, and zeros behind them. -/
def filling (s d t : Int) (i : Nat) : List Value := iv ((startsL s d t).take i) ++ List.replicate (numP s d t - i) (.int .i64 0)
theorem filling_zero (s d t : Int) : filling s d t 0 = List.replicate (numP s d t) (.int .i64 0) := by simp [filling, iv]
theorem filling_all (s d t : Int) : filling s d t (numP s d t) = iv (startsL s d t) := by
  unfold filling
  rw [← startsL_length, List.take_length, Nat.sub_self]
  simp
theorem filling_set {s d t : Int} {i : Nat} (h : i < numP s d t) : (filling s d t i).set i (.int .i64 ((oldK s d t + (i : Int)) * d)) = filling s d t (i + 1) := by
  have hl : (iv ((startsL s d t).take i)).length = i := by rw [iv_length, List.length_take, startsL_length]; omega
  have e : numP s d t - i = numP s d t - (i + 1) + 1 := by omega
  have e2 : (startsL s d t).take (i + 1) = (startsL s d t).take i ++ [(oldK s d t + (i : Int)) * d] := by
    rw [List.take_add_one, ← startsL_get h]
    simp [List.getD, startsL_length, h]
  unfold filling
  rw [List.set_append_right _ _ (by omega), hl, Nat.sub_self, e, List.replicate_succ, List.set_cons_zero, e2, iv_append]
  simp [iv]
theorem filling_get {s d t : Int} {i : Nat} (h : i < numP s d t) : ∃ u, (filling s d t i)[i]? = some u := by
  have : i < (filling s d t i).length := by unfold filling; simp [iv, startsL_length]; omega
  exact ⟨_, List.getElem?_eq_getElem this⟩

/-- What stands in the rounds of Starts. -/
structure SI (w wx : World) (s d l t : Int) (g i : Nat) : Prop where
  vw : VwAt wx w.heap.size s d l
  row : RowV wx g (filling s d t i)
  fr : Fr w wx (fun _ => False)
  le : i ≤ numP s d t

set_option maxHeartbeats 2000000 in
theorem starts_ok {s d l t : Int} (h : OkV s d l) (ht : Ti t) (w : World) : Calls Try.prog 89 #[.agg #[.int .i64 s, .int .i64 d, .int .i64 l], .int .i64 t] w fun e w' =>
    ∃ b, e = .returned (.tuple #[.slice (some ⟨b, 0, none⟩) (startsL s d t).length (startsL s d t).length, .int .i64 0]) ∧ w.heap.size < b ∧ RowV w' b (iv (startsL s d t)) ∧ Fr w w' (fun _ => False) := by
  have HC := hid (fun W : World => check_ok h W)
  have HO := hid (fun W : World => oldest_any h ht.tm W)
  obtain ⟨ht1, ht2⟩ := id ht
  have t1 : ¬ t < -1152921504606846976 := by omega
  have t2 : ¬ 1152921504606846976 < t := by omega
  have hd1 := h.d1
  have hd2 := h.d2
  have hs1 := h.s1
  have hs2 := h.s2
  have HN := hid (numP_le (t := t) h.sd h.d1)
  have hlo : t < oldK s d t * d + s := (oldK_le h.d1).1 (Int.le_refl _)
  have hhi : oldK s d t * d ≤ t + d := by
    have := mul_mono (oldK_div (t := t) h.s1 h.d1) (show 0 ≤ d by omega)
    rw [Int.add_mul, Int.one_mul] at this
    have := (div_near (t := t) h.d1).1
    omega
  have hp := panes_eq (t := t) h.s1 h.d1
  rw [Int.tdiv_eq_ediv_of_nonneg (by omega)] at hp
  have HP := hid hp
  have HMK := hid (fun W : World => run_make_row' (P := Try.prog) 40 2 (.int .i64 0) 8 Try.underlying40 Try.info_i64 rfl .i64 .i64 (numP s d t) (by have := HN.out; omega) (by have := HN.out; omega) W)
  have HV := hid h
  have hd3 : ¬ d = 0 := by omega
  clear h ht hp
  go_enter Try.func89, Try.ntmps89
  go_wp2_with fail
  refine (HC.out _).mono ?_
  rintro e w1 ⟨rfl, hf1⟩
  have HV1 := hid ((VwAt.new w s d l).fr hf1 (fun h => h))
  have HF1 := hid ((alloc_fr w _ _).trans hf1)
  clear hf1
  obtain ⟨c0, c1, c2⟩ := HV1.out.cells
  have hlt := HV1.out.lt
  go_wp2_with fail
  refine (HO.out _).mono ?_
  rintro e w2 ⟨rfl, hf2⟩
  have HV2 := hid (HV1.out.fr hf2 (fun h => h))
  have HF2 := hid (HF1.out.trans hf2)
  clear hf2 HV1 HF1 c0 c1 c2 hlt
  obtain ⟨c0, c1, c2⟩ := HV2.out.cells
  have hlt := HV2.out.lt
  have hp := HP.out
  have hmk := HMK.out w2
  generalize hX : oldK s d t * d = x at *
  have HX := hid hX
  clear hX
  go_wp2_with fail
  rw [hp]
  have HN0 := hid (show (startsL s d t).length = numP s d t from startsL_length s d t)
  have hN := HN.out
  clear hp hmk HP HMK HC HO c0 c1 c2 hlt t1 t2
  have HS : Hid (SI w (w2.alloc (.cells (madeCells #[Value.int .i64 0] (numP s d t)) 2)) s d l t w2.heap.size 0) :=
    ⟨HV2.out.fr (alloc_fr _ _ (fun _ => False)) (fun h => h), by
      unfold RowV
      rw [filling_zero, heap_last _ _ _ rfl]
      congr 2
      apply Array.ext'
      rw [made_row], HF2.out.alloc _, Nat.zero_le _⟩
  have HB := hid HF2.out.size
  have HB2 := hid HV2.out.lt
  clear HV2 HF2
  generalize w2.alloc (.cells (madeCells #[Value.int .i64 0] (numP s d t)) 2) = w3 at *
  generalize w2.heap.size = b at *
  go_loopg [37] (numP s d t) (fun g s37 wx => ∃ i : Nat, s37 = .int .i64 (i : Int) ∧ Hid (i + g = numP s d t) ∧ Hid (SI w wx s d l t b i))
  case atStart => exact ⟨0, rfl, by show _ = _; omega, HS⟩
  case round =>
    obtain ⟨i, rfl, HG, HS1⟩ := hrel
    clear HS
    obtain ⟨c0, c1, c2⟩ := HS1.out.vw.cells
    have hlt := HS1.out.vw.lt
    cases gk with
    | zero =>
      have e : i = numP s d t := by have := HG.out; omega
      have t1 : ¬ (i : Int) < (numP s d t : Int) := by omega
      have HE := hid e
      clear e
      go_wp2_with fail
      rw [← HN0.out]
      go_ret2
      refine ⟨b, rfl, HB2.out, ?_, HS1.out.fr⟩
      have := HS1.out.row
      rw [HE.out, filling_all] at this
      exact this
    | succ g =>
      have hi : i < numP s d t := by have := HG.out; omega
      have t1 : (i : Int) < (numP s d t : Int) := by omega
      obtain ⟨u, hu⟩ := filling_get hi
      have hc := HS1.out.row.cell i
      rw [hu] at hc
      have hfz := HS1.out.row.free i
      have hm1 : 0 ≤ (i : Int) * d := Int.mul_nonneg (by omega) (by omega)
      have hm2 : x + (i : Int) * d ≤ t := by
        have h1 : (oldK s d t + (i : Int)) ≤ t / d := by unfold numP at hi; omega
        have h2 := mul_mono h1 (show 0 ≤ d by omega)
        have h3 := (div_near (t := t) hd1).1
        have h4 := HX.out
        rw [Int.add_mul, h4] at h2
        omega
      have hw1 : IntKind.i64.wrap ((i : Int) * d) = (i : Int) * d := wrap_fit (by unfold fits; omega)
      have hw2 : IntKind.i64.wrap (x + (i : Int) * d) = x + (i : Int) * d := wrap_fit (by unfold fits; omega)
      have HSET := hid (HS1.out.row.set i (.int .i64 ((oldK s d t + (i : Int)) * d)))
      rw [filling_set hi, Int.add_mul, HX.out] at HSET
      clear hm1 hm2 hu
      have HI := hid hi
      clear hi
      go_wp2_with fail
      go_roundg g
      case measure => omega
      case rel =>
        refine ⟨i + 1, by go_num, by have := HG.out; show _ = _; omega, ?_, HSET.out, HS1.out.fr.setCell (fun h => by have := HB2.out; simp at h; omega) _, by have := HI.out; omega⟩
        have hne : w.heap.size ≠ b := by have := HB2.out; omega
        have := HS1.out.vw
        unfold VwAt at this ⊢
        rw [Below.heap_setCell _ _ _ _ (by simpa using hne)]
        exact this

theorem starts_bad {s d l t : Int} (h : ¬ OkV s d l) (w : World) : Calls Try.prog 89 #[.agg #[.int .i64 s, .int .i64 d, .int .i64 l], .int .i64 t] w fun e w' =>
    e = .returned (.tuple #[.slice none 0 0, .int .i64 23]) ∧ Fr w w' (fun _ => False) := by
  have HC := hid (fun W : World => check_bad h W)
  clear h
  go_enter Try.func89, Try.ntmps89
  go_wp2_with fail
  refine (HC.out _).mono ?_
  rintro e w1 ⟨rfl, hf1⟩
  have HF1 := hid ((alloc_fr w _ _).trans hf1)
  clear hf1
  go_wp2_with fail
  go_ret2
  exact ⟨rfl, HF1.out⟩
theorem starts_late {s d l t : Int} (h : OkV s d l) (ht : ¬ Ti t) (w : World) : Calls Try.prog 89 #[.agg #[.int .i64 s, .int .i64 d, .int .i64 l], .int .i64 t] w fun e w' =>
    e = .returned (.tuple #[.slice none 0 0, .int .i64 22]) ∧ Fr w w' (fun _ => False) := by
  have HC := hid (fun W : World => check_ok h W)
  clear h
  have hc : t < -1152921504606846976 ∨ (¬ t < -1152921504606846976 ∧ 1152921504606846976 < t) := by unfold Ti at ht; omega
  clear ht
  rcases hc with t1 | ⟨t1, t2⟩
  all_goals
    go_enter Try.func89, Try.ntmps89
    go_wp2_with fail
    refine (HC.out _).mono ?_
    rintro e w1 ⟨rfl, hf1⟩
    have HF1 := hid ((alloc_fr w _ _).trans hf1)
    clear hf1
    go_wp2_with fail
    go_ret2
    exact ⟨rfl, HF1.out⟩
end Go.Proofs.Ytbhhpkbiflolfaa
