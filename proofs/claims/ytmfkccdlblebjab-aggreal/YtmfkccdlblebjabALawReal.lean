/- AggReal returns true for every row of int64 and every int64; no conditions. -/
import Derived.Test.YtmfkccdlblebjabAKnown
import Derived.Test.YtmfkccdlblebjabAStat
import Derived.Test.YtmfkccdlblebjabAArgs
import Derived.ProofKit
import Derived.OpenShut
import Derived.Below
import Derived.WalkSmall
import Derived.Deep.Draws
namespace Go.Proofs.Ytmfkccdlblebjab
open Go.ChangeShapes Go.WideShapes Go.ChangeAt Go.RowKit

theorem realOwn : ownKnob Try.prog.godebug = none := by kernel_rfl

theorem right_swap {c s lo hi : Int} (hc : 2 ≤ c) (h : hi < lo) : rightB c s lo hi = false := by
  unfold rightB
  rw [if_neg (by omega), if_neg (by omega)]
  simp
  omega
theorem right_neg {c s lo hi : Int} (hc : c < 0) : rightB c s lo hi = false := by
  unfold rightB
  rw [if_pos (by omega)]
  simp
  omega
theorem right_same {c s t lo : Int} (hc : 2 ≤ c) (h : rightB c s lo lo = true) (hne : t ≠ s) : rightB c t lo lo = false := by
  rw [right_two hc] at h
  unfold rightB
  rw [if_neg (by omega), if_neg (by omega)]
  simp
  omega

set_option maxHeartbeats 2000000 in
theorem real_walk (v : Value) (xs : List Int) (b : Int) (w : World) (hv : Is w v xs) (hb : fits b) :
    Calls Try.prog 5 #[v, .int .i64 b] w fun e w' => e = .returned (.bool true) ∧ Fr w w' (fun _ => False) := by
  obtain ⟨ao, cap, rfl, hlen, hfit, hcell⟩ := id hv
  have HV := hid hv
  have HFIT := hid hfit
  clear hfit hcell hv
  go_enter Try.func5, Try.ntmps5
  go_wp2_with fail
  refine (known_any _).mono ?_
  rintro e w1 ⟨rfl, hf1⟩
  have HF1 := hid hf1
  clear hf1
  by_cases h2 : xs.length < 2
  · have t1 : (xs.length : Int) < 2 := by omega
    go_wp2_with fail
    go_ret
    exact ⟨rfl, HF1.out⟩
  have t1 : ¬ (xs.length : Int) < 2 := by omega
  by_cases h5 : 5000 < xs.length
  · have t2 : (5000 : Int) < (xs.length : Int) := by omega
    go_wp2_with fail
    go_ret
    exact ⟨rfl, HF1.out⟩
  have t2 : ¬ (5000 : Int) < (xs.length : Int) := by omega
  go_wp2_with fail
  refine (fold_any _ xs w1 (HV.out.fr HF1.out)).mono ?_
  rintro e w2 ⟨hf2, hr⟩
  have HF2 := hid (HF1.out.trans hf2)
  clear hf2
  cases hfo : foldE Ag.zero xs with
  | error p =>
    rw [hfo] at hr
    obtain ⟨o, rfl, _, _⟩ := hr
    clear hfo
    unfold overV
    go_wp2_with fail
    go_ret
    exact ⟨rfl, HF2.out.alloc _⟩
  | ok a =>
    rw [hfo] at hr
    have hr := hr.symm
    subst hr
    have hst := foldE_stat hfo
    have hR : rightB a.c a.s a.lo a.hi = true := by rw [hst]; exact fine_right (fine_stat xs)
    have hc : a.c = xs.length := by rw [hst]; exact stat_count xs
    have hc2 : 2 ≤ a.c := by omega
    have hok : a.ok := foldE_ok HFIT.out hfo
    have HR := hid hR
    have HC := hid hc
    have HOK := hid hok
    clear hst hR hc hfo hok
    have HRIGHT := hid (fun W : World => right_any a HOK.out W)
    rw [HR.out] at HRIGHT
    go_wp2_with fail
    refine (HRIGHT.out _).mono ?_
    rintro e w3 ⟨rfl, hf3⟩
    have HA3 : Hid (AgAt w3 w2.heap.size a) := AgAt.fr (w := w2.alloc _) (heap_last _ _ _ rfl) hf3 (fun h => h)
    obtain ⟨c0, c1, c2, c3, c4⟩ := HA3.out.cells
    have hz := HA3.out.lt
    have HF3 := hid ((HF2.out.alloc _).trans hf3)
    clear hf3
    have hcl : a.c ≤ 5000 := by have := HC.out; omega
    have HNEG : Hid (∀ (lo hi : Int), fits lo → fits hi → ∀ W : World, Calls Try.prog 9 #[.agg #[.int .i64 (-a.c), .int .i64 a.s, .int .i64 lo, .int .i64 hi]] W fun e w' => e = .returned (.bool false) ∧ Fr W w' (fun _ => False)) := by
      intro lo hi hlo hhi W
      have := right_any ⟨-a.c, a.s, lo, hi⟩ ⟨⟨by simp only; omega, by simp only; omega⟩, HOK.out.2.1, hlo, hhi⟩ W
      rw [right_neg (by simp only; omega)] at this
      exact this
    by_cases hne : a.lo = a.hi
    · have HSAME : Hid (∀ t : Int, fits t → t ≠ a.s → ∀ W : World, Calls Try.prog 9 #[.agg #[.int .i64 a.c, .int .i64 t, .int .i64 a.hi, .int .i64 a.hi]] W fun e w' => e = .returned (.bool false) ∧ Fr W w' (fun _ => False)) := by
        intro t ht hts W
        have := right_any ⟨a.c, t, a.hi, a.hi⟩ ⟨HOK.out.1, ht, HOK.out.2.2.2, HOK.out.2.2.2⟩ W
        rw [right_same (s := a.s) hc2 (by have := HR.out; rwa [hne] at this) hts] at this
        exact this
      go_wp2_with fail
      go_region
      by_cases hb0 : b = 0
      · have hb1 : (b != 0) = false := by simpa using hb0
        clear hb0
        go_wp2_with fail
        refine (HNEG.out a.hi a.hi HOK.out.2.2.2 HOK.out.2.2.2 _).mono ?_
        rintro e w4 ⟨rfl, hf4⟩
        have HF4 := hid ((HF3.out.alloc _).drew.trans hf4)
        clear hf4
        go_wp2_with fail
        go_ret
        exact ⟨rfl, HF4.out⟩
      · have hb1 : (b != 0) = true := by simpa using hb0
        have hs := HOK.out.2.1
        by_cases hfit : fits (a.s + b)
        · have HS2 := hid (HSAME.out (a.s + b) hfit (by omega))
          clear hb0
          go_wp2_with fail
          refine (add_ok a.s b hfit _).mono ?_
          rintro e w4 ⟨rfl, rfl⟩
          go_wp2_with fail
          refine (HS2.out _).mono ?_
          rintro e w4 ⟨rfl, hf4⟩
          have HF4 := hid ((HF3.out.alloc _).drew.trans hf4)
          clear hf4
          go_wp2_with fail
          go_ret
          exact ⟨rfl, HF4.out⟩
        · clear hb0
          go_wp2_with fail
          refine (add_over a.s b hs hb hfit _).mono ?_
          rintro e w4 ⟨rfl, rfl⟩
          unfold overV overB
          go_wp2_with fail
          go_ret
          exact ⟨rfl, ((HF3.out.alloc _).alloc _).drew⟩
    · have hlo : a.lo ≤ a.hi := by have := HR.out; rw [right_two hc2] at this; exact this.1
      have HSW : Hid (∀ W : World, Calls Try.prog 9 #[.agg #[.int .i64 a.c, .int .i64 a.s, .int .i64 a.hi, .int .i64 a.lo]] W fun e w' => e = .returned (.bool false) ∧ Fr W w' (fun _ => False)) := by
        intro W
        have := right_any ⟨a.c, a.s, a.hi, a.lo⟩ ⟨HOK.out.1, HOK.out.2.1, HOK.out.2.2.2, HOK.out.2.2.1⟩ W
        rw [right_swap hc2 (by simp only; omega)] at this
        exact this
      have hn1 : (a.lo != a.hi) = true := by simpa using hne
      have hn2 : (a.lo == a.hi) = false := by simpa using hne
      clear hne
      go_wp2_with fail
      go_region
      go_wp2_with fail
      refine (HSW.out _).mono ?_
      rintro e w4 ⟨rfl, hf4⟩
      have HX4 : Hid (AgAt w4 w2.heap.size a) := (HA3.out.fr ((alloc_fr w3 _ (fun _ => False)).drew.trans hf4) (fun h => h))
      have HY4 : Hid (AgAt w4 w3.heap.size ⟨a.c, a.s, a.hi, a.lo⟩) := AgAt.fr (w := (w3.alloc _).drew) (heap_last _ _ _ rfl) hf4 (fun h => h)
      clear c0 c1 c2 c3 c4
      obtain ⟨c0, c1, c2, c3, c4⟩ := HX4.out.cells
      obtain ⟨d0, d1, d2, d3, d4⟩ := HY4.out.cells
      have HF4 := hid ((HF3.out.alloc _).drew.trans hf4)
      have hz4 := HY4.out.lt
      clear hf4
      go_wp2_with fail
      refine (HNEG.out a.lo a.hi HOK.out.2.2.1 HOK.out.2.2.2 _).mono ?_
      rintro e w5 ⟨rfl, hf5⟩
      have hw3 := HF3.out.size
      have HF5 := hid (((fr_set4 HF4.out hw3 _ _ _ _).setCell (fun h => by simp at h; omega) _).trans hf5)
      clear hf5
      go_wp2_with fail
      go_ret
      exact ⟨rfl, HF5.out⟩

set_option maxRecDepth 100000 in
theorem real_lifted (os : Os) (started : os.Started) (H : Type) (enc : TypeId × Value → H) :
    ReturnsInHanded {} Try.checked os 5 .any (Rows.aggRealSpec.pre6 enc Try.prog Try.f5 Rows.aggRealRow.domain false) (Rows.aggRealSpec.post enc Try.prog Try.f5 false true false false) := by
  refine returnsInHanded_of_change_sized (C := Try.checked) argOwn started (by kernel_rfl) Try.func5
    (ChangeSpec.witness6 (enc := enc) (C := Try.checked) false ⟨#[], #[.slice none 0 0, .int .i64 0], []⟩ 8 (by kernel_rfl) (by kernel_rfl) (by kernel_rfl) (by kernel_rfl)) ?_
  intro W base args ds gs before hval0 hW _ hsz0 _
  have hsz : (DataW.weightsEach Try.prog (Try.f5.params.toList ++ Rows.aggRealSpec.plain.varTypes Try.prog) (ds ++ gs)).all (· ≤ reachBytes) = true := hsz0
  clear hsz0
  have hval : ∀ (j : Nat) t v, Try.f5.params[j]? = some t → args[j]? = some v → Value.okWide Try.prog W .any base t v := hval0
  have hW' := hW
  obtain ⟨p, q, hA0, hV, rfl, _, _⟩ := hW
  have hA : DataW.TrodAll enc Try.prog W 0 (fun _ => true) true Try.f5.params.toList args.toList ds p := hA0
  rw [Try.params5] at hA hval hsz
  obtain ⟨v0, v1, d0, d1, p0, p1, rfl, rfl, rfl, h0, h1⟩ := trodAll_two hA
  obtain ⟨rfl, rfl⟩ := trodVars_none hV
  obtain ⟨a0, len0, cap0, rfl⟩ := okWide_slice Try.underlying22 (hval 0 22 v0 rfl rfl)
  obtain ⟨x1, rfl, rfl, rfl, w1⟩ := open_int Try.underlying2 (hval 1 2 v1 rfl rfl) h1
  have k0 := h0
  have lt0 : ∀ x ∈ p0, x.block < W.heap.size := by obtain ⟨m, hm⟩ := k0; exact DataW.trod_lt m _ _ _ hm
  obtain ⟨f0, hf0⟩ := h0
  have hf0' : DataW.trod enc Try.prog W 0 (fun _ => true) true f0 22 [.slice a0 len0 cap0] = some (d0, p0) := by simpa [Value.cells] using hf0
  have hl0 := len_of_trod Try.underlying22 (by rw [Try.bytes_i64]; decide) hf0' hsz (j := 0) rfl rfl
  obtain ⟨xs, hxs⟩ := is_of_trod hf0' hl0
  clear hA0 hval0
  refine (real_walk _ xs x1 W hxs (bounds_i64 w1)).mono fun e W' ⟨he, hf⟩ => ?_
  subst he
  have bel : Below W.heap.size W W' := hf.below (Nat.le_refl _) (fun _ h => h.elim)
  exact ⟨_, rfl, _, _, _, [], _, [], hW', trodAll_mk1 (shut_bool Try.underlying4 _), trodAll_mk2 (Below.trod argLaid (by kernel_rfl) (of_decide_eq_true (by kernel_rfl)) k0 bel lt0) (shut_int Try.underlying2 w1), rfl, bel.frame _, fun h => by cases h⟩

theorem real_over : Rows.aggRealRow.holds Try.pinned (OpenSpec.ofChange Rows.aggRealSpec) :=
  OpenClaim.holds_of_wide 5 Try.f5 rfl rfl rfl rfl rfl rfl rfl ⟨rfl, rfl, rfl, rfl, rfl⟩ rfl rfl rfl rfl rfl (by kernel_rfl) Try.func5 (by kernel_rfl)
    (of_decide_eq_true (by kernel_rfl)) (by unfold Func.isWrapper; first | (rw [if_pos (by decide +kernel)]; kernel_rfl) | (rw [if_neg (by decide +kernel)]; exact ⟨rfl, rfl⟩))
    (fun os started H enc _ => real_lifted os started H enc)

theorem aggReal_holds : Rows.AggRealSaid := real_over
#print axioms aggReal_holds
end Go.Proofs.Ytmfkccdlblebjab
