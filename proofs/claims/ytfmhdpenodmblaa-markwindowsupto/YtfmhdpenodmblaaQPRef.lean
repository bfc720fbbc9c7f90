/- Windows by number: what the document's Starts leans on (out of PMore). -/
import Derived.Test.YtfmhdpenodmblaaQRef
import Derived.Laws.AppendOwnNone
import Derived.OwnWalk
namespace Go.Proofs.Ytfmhdpenodmblaa
open Go.RowKit

theorem num_test {s d t : Int} (hs : 1 ≤ s) (hd : 1 ≤ d) (i : Nat) : i < numP s d t ↔ (oldK s d t + (i : Int)) * d ≤ t := by
  have hk := oldK_div (t := t) hs hd
  have hn := div_near (t := t) hd
  constructor
  · intro h
    have h1 : oldK s d t + (i : Int) ≤ t / d := by unfold numP at h; omega
    have := mul_mono h1 (show 0 ≤ d by omega)
    omega
  · intro h
    have h1 : ¬ t / d + 1 ≤ oldK s d t + (i : Int) := by
      intro h1
      have := mul_mono h1 (show 0 ≤ d by omega)
      rw [Int.add_mul, Int.one_mul] at this
      omega
    unfold numP
    omega
theorem take_step {s d t : Int} {i : Nat} (h : i < numP s d t) : (startsL s d t).take (i + 1) = (startsL s d t).take i ++ [(oldK s d t + (i : Int)) * d] := by
  rw [List.take_add_one, ← startsL_get h]
  simp [List.getD, startsL_length, h]

theorem startsL_fits {s d l t : Int} (h : OkV s d l) (ht : Ti t) : ∀ x ∈ startsL s d t, fits x := by
  intro x hx
  obtain ⟨k, _, h1, h2⟩ := (startsL_mem h.s1 h.d1).1 hx
  have := h.s2
  unfold Ti at ht
  unfold fits
  omega
theorem startsL_short {s d l t : Int} (h : OkV s d l) : (startsL s d t).length ≤ 64 := by rw [startsL_length]; exact numP_le h.sd h.d1
theorem nil_is (w : World) : Is w (.slice none 0 0) [] := ⟨none, 0, rfl, by simp, by simp, fun h => absurd rfl h⟩

/-- A view stands at a block, and nothing old has turned. -/
structure VF (w : World) (s d l : Int) (W : World) : Prop where
  vw : VwAt W w.heap.size s d l
  fr : Fr w W (fun _ => False)
theorem VF.step {w : World} {s d l : Int} {W W' : World} (h : VF w s d l W) (hf : Fr W W' (fun _ => False)) : VF w s d l W' := ⟨h.vw.fr hf (fun h => h), h.fr.trans hf⟩
theorem VF.drew {w : World} {s d l : Int} {W : World} (h : VF w s d l W) : VF w s d l W.drew := h.step (Fr.refl W _).drew
theorem VF.alloc {w : World} {s d l : Int} {W : World} (h : VF w s d l W) (o : Obj) : VF w s d l (W.alloc o) := h.step (alloc_fr W o _)
theorem VF.new (w : World) (s d l : Int) : VF w s d l (w.alloc (.cells #[.int .i64 s, .int .i64 d, .int .i64 l] 58)) := ⟨VwAt.new w s d l, alloc_fr _ _ _⟩

theorem refCheck_ok {s d l : Int} (h : OkV s d l) (w : World) : Calls Try.prog 36 #[.agg #[.int .i64 s, .int .i64 d, .int .i64 l]] w fun e w' => e = .returned (.int .i64 0) ∧ Fr w w' (fun _ => False) := by
  obtain ⟨h1, h2, h3, h4, h5, h6, h7⟩ := h
  have t1 : ¬ s < 1 := by omega
  have t2 : ¬ 1099511627776 < s := by omega
  have t3 : ¬ d < 1 := by omega
  have t4 : ¬ 1099511627776 < d := by omega
  have t5 : ¬ l < 0 := by omega
  have t6 : ¬ 1099511627776 < l := by omega
  have t7 : ¬ 64 * d < s := by omega
  go_enter Try.func36, Try.ntmps36
  go_wp2
  go_ret
  exact ⟨rfl, alloc_fr _ _ _⟩
theorem refCheck_bad {s d l : Int} (h : ¬ OkV s d l) (w : World) : Calls Try.prog 36 #[.agg #[.int .i64 s, .int .i64 d, .int .i64 l]] w fun e w' => e = .returned (.int .i64 23) ∧ Fr w w' (fun _ => False) := by
  rcases okV_not h with t1 | ⟨t1, t2⟩ | ⟨t1, t2, t3⟩ | ⟨t1, t2, t3, t4⟩ | ⟨t1, t2, t3, t4, t5⟩ | ⟨t1, t2, t3, t4, t5, t6⟩ | ⟨t1, t2, t3, t4, t5, t6, t7⟩
  all_goals
    clear h
    go_enter Try.func36, Try.ntmps36
    go_wp2
    go_ret
    exact ⟨rfl, alloc_fr _ _ _⟩

/-- The greatest multiple of d at or below n. -/
theorem below_val {n d : Int} (hd : 1 ≤ d) : (if n.tmod d < 0 then n.tdiv d - 1 else n.tdiv d) = n / d := by
  have h1 := Int.tmod_add_mul_tdiv n d
  have h2 := Int.tmod_lt_of_pos n (show 0 < d by omega)
  have h3 := Int.lt_tmod_of_pos n (show 0 < d by omega)
  have h4 : d * n.tdiv d = n.tdiv d * d := Int.mul_comm _ _
  symm
  split
  · refine (Int.ediv_emod_unique (r := n.tmod d + d) (by omega)).2 ⟨?_, by omega, by omega⟩ |>.1
    rw [Int.mul_sub]
    omega
  · refine (Int.ediv_emod_unique (r := n.tmod d) (by omega)).2 ⟨?_, by omega, by omega⟩ |>.1
    omega

set_option maxHeartbeats 1000000 in
theorem below_any {n d : Int} (hd : 1 ≤ d) (hd2 : d ≤ 1099511627776) (h1 : -9000000000000000000 ≤ n) (h2 : n ≤ 9000000000000000000) (w : World) : Calls Try.prog 47 #[.int .i64 n, .int .i64 d] w fun e w' => e = .returned (.int .i64 (n / d * d)) ∧ w' = w := by
  have hv := below_val (n := n) hd
  have hb := div_near (t := n) hd
  have hn := tdiv_near (t := n) hd
  have hd3 : ¬ d = 0 := by omega
  have hq : -9000000000000000000 ≤ n.tdiv d ∧ n.tdiv d ≤ 9000000000000000000 := by
    have h := Int.natAbs_tdiv_le_natAbs n d
    omega
  obtain ⟨hq1, hq2⟩ := hq
  by_cases hr : n.tmod d < 0
  · rw [if_pos hr] at hv
    have hw : IntKind.i64.wrap ((n.tdiv d - 1) * d) = n / d * d := by rw [hv]; exact wrap_fit (by unfold fits; omega)
    clear hv hn hb
    go_enter Try.func47, Try.ntmps47
    go_wp2
    go_ret
    exact ⟨rfl, rfl⟩
  · rw [if_neg hr] at hv
    have hw : IntKind.i64.wrap (n.tdiv d * d) = n / d * d := by rw [hv]; exact wrap_fit (by unfold fits; omega)
    clear hv hn hb
    go_enter Try.func47, Try.ntmps47
    go_wp2
    go_ret
    exact ⟨rfl, rfl⟩

/-- What stands in the rounds of the document's Starts. -/
structure RI (w wx : World) (s d l t : Int) (v : Value) (i : Nat) : Prop where
  vw : VwAt wx w.heap.size s d l
  own : wx.ownsRow (w.heap.size + 1) 2 1 v i (iv ((startsL s d t).take i))
  fr : Fr w wx (fun _ => False)
  le : i ≤ numP s d t
theorem RI.grow {w wx w1 : World} {s d l t : Int} {v v' : Value} {i : Nat} {x : Int} (h : RI w wx s d l t v i) (hi : i < numP s d t) (hx : x = (oldK s d t + (i : Int)) * d) (o : Obj)
    (hown : w1.ownsRow (w.heap.size + 1) 2 1 v' (i + 1) (iv ((startsL s d t).take i) ++ [.int .i64 x])) (hg : (wx.alloc o).grownBy w1 v.ownBlock) : RI w w1 s d l t v' (i + 1) := by
  have hb : ∀ k, v.ownBlock = some k → w.heap.size + 1 ≤ k := fun k hk => (h.own.lt k hk).1
  have hf : Fr wx w1 (fun k => w.heap.size + 1 ≤ k) := (alloc_fr wx o _).grown hg (fun k _ e => hb k e)
  refine ⟨h.vw.fr hf (by omega), ?_, (h.fr.alloc o).grown hg (fun k hk e => by have := hb k e; omega), by omega⟩
  rw [take_step hi, iv_append, ← hx]
  exact hown

set_option maxHeartbeats 2000000 in
theorem refStarts_ok {s d l t : Int} (h : OkV s d l) (ht : Ti t) (w : World) : Calls Try.prog 41 #[.agg #[.int .i64 s, .int .i64 d, .int .i64 l], .int .i64 t] w fun e w' =>
    ∃ v, e = .returned (.tuple #[v, .int .i64 0]) ∧ w'.ownsRow (w.heap.size + 1) 2 1 v (startsL s d t).length (iv (startsL s d t)) ∧ Fr w w' (fun _ => False) := by
  have HC := hid (fun W : World => refCheck_ok h W)
  obtain ⟨ht1, ht2⟩ := id ht
  have t1 : ¬ t < -1152921504606846976 := by omega
  have t2 : ¬ 1152921504606846976 < t := by omega
  have hd1 := h.d1
  have hd2 := h.d2
  have hs1 := h.s1
  have hs2 := h.s2
  have HN := hid (numP_le (t := t) h.sd h.d1)
  have HB := hid (fun W : World => below_any (n := t - s) h.d1 h.d2 (by omega) (by omega) W)
  have hx0 : (t - s) / d * d + d = oldK s d t * d := by unfold oldK; rw [Int.add_mul, Int.one_mul]
  have hlo : t < oldK s d t * d + s := (oldK_le h.d1).1 (Int.le_refl _)
  have hhi : oldK s d t * d ≤ t + d := by
    have := mul_mono (oldK_div (t := t) h.s1 h.d1) (show 0 ≤ d by omega)
    rw [Int.add_mul, Int.one_mul] at this
    have := (div_near (t := t) h.d1).1
    omega
  have hw1 : IntKind.i64.wrap (t - s) = t - s := wrap_fit (by unfold fits; omega)
  have hw2 : IntKind.i64.wrap ((t - s) / d * d + d) = oldK s d t * d := by rw [hx0]; exact wrap_fit (by unfold fits; omega)
  have hd3 : ¬ d = 0 := by omega
  have HV := hid h
  clear h ht hx0
  go_enter Try.func41, Try.ntmps41
  go_wp2_with fail
  refine (HC.out _).mono ?_
  rintro e w1 ⟨rfl, hf1⟩
  have HV1 := hid ((VwAt.new w s d l).fr hf1 (fun h => h))
  have HF1 := hid ((alloc_fr w _ _).trans hf1)
  clear hf1
  obtain ⟨c0, c1, c2⟩ := HV1.out.cells
  have hlt := HV1.out.lt
  go_wp2_with fail
  go_quiet ((go_at_call 47; exact Calls.quiet_of_same (HB.out _)))
  go_wp2_with fail
  have HRI : Hid (RI w w1 s d l t (.slice none 0 0) 0) := ⟨HV1.out, World.ownsRow_nil _ _ _ _, HF1.out, Nat.zero_le _⟩
  have HX0 := hid (show oldK s d t * d = (oldK s d t + ((0 : Nat) : Int)) * d by simp)
  have HT := hid (fun i => num_test (s := s) (t := t) hs1 hd1 i)
  clear hw1 hw2 HC HB HV1 HF1 c0 c1 c2 hlt t1 t2
  generalize oldK s d t * d = x0 at *
  go_loopg [6, 7] (numP s d t) (fun g s6 s7 wx => ∃ (i : Nat) (x : Int), s7 = .int .i64 x ∧ i + g = numP s d t ∧ Hid (x = (oldK s d t + (i : Int)) * d) ∧ t < x + s ∧ x ≤ t + d ∧ Hid (RI w wx s d l t s6 i))
  case atStart => exact ⟨0, x0, rfl, by omega, HX0, hlo, hhi, HRI.out.vw.fr ((Fr.refl _ (fun _ => False)).drewN _) (fun h => h), own_fr HRI.out.own ((Fr.refl _ (fun _ => False)).drewN _) (fun _ _ h => h), HRI.out.fr.drewN _, Nat.zero_le _⟩
  case round =>
    obtain ⟨i, x, rfl, hg, HX, hl2, hh2, HR⟩ := hrel
    clear hlo hhi HRI HX0
    obtain ⟨c0, c1, c2⟩ := HR.out.vw.cells
    have hlt := HR.out.vw.lt
    cases gk with
    | zero =>
      have e : i = numP s d t := by omega
      have t1 : ¬ x ≤ t := by
        have := HT.out i
        rw [← HX.out] at this
        omega
      have HE := hid e
      clear e hg
      go_wp2_with fail
      go_ret2
      refine ⟨_, rfl, ?_, HR.out.fr⟩
      have := HR.out.own
      rw [HE.out, ← startsL_length, List.take_length] at this
      exact this
    | succ g =>
      have hi : i < numP s d t := by omega
      have t1 : x ≤ t := by
        have := HT.out i
        rw [← HX.out] at this
        omega
      have HG := hid hg
      have hN := HN.out
      have HI := hid hi
      have hi64 : i ≤ 64 := by omega
      clear hg hi
      obtain ⟨i0, hinfo, hz0, hz1, hz2⟩ := info_parts Try.info_i64
      have hsz := HR.out.fr.size
      go_wp2_with (at_builtin; refine wpList_append_own _ rfl _ _ 43 rfl (w.heap.size + 1) 2 i0 (.int .i64 0) 1 8 Try.underlying43 hinfo hz0 hz1 hz2 rfl (by decide) _ _ _ rfl (own_fr HR.out.own (alloc_fr wr _ (fun _ => False)) (fun _ _ h => h)) ⟨wr.heap.size, 0, none⟩ 1 1 [.int .i64 x] rfl rfl (cell_one_new _ _ _) (fun x hx => by simp at hx; subst hx; rfl) (by unfold maxLen; omega) (by omega) (by simp; omega) ?_; intro v' w3 hown3 hgrow3 hnil3; have HR3 := hid (RI.grow HR.out HI.out HX.out _ hown3 hgrow3); obtain ⟨k0, k1, k2⟩ := HR3.out.vw.cells; have hlt3 := HR3.out.vw.lt; clear c0 c1 c2 hlt hown3 hgrow3 hnil3)
      go_roundg g
      case measure => omega
      case rel => exact ⟨i + 1, x + d, by go_num, by have := HG.out; omega, by show _ = _; rw [HX.out]; simp [Int.add_mul]; omega, by omega, by omega, HR3⟩

theorem refClosed_any (s d l x m : Int) (h : fits (x + s)) (h2 : fits (x + s + l)) (w : World) : Calls Try.prog 42 #[.agg #[.int .i64 s, .int .i64 d, .int .i64 l], .int .i64 x, .int .i64 m] w fun e w' => e = .returned (.bool (decide (x + s + l ≤ m))) ∧ Fr w w' (fun _ => False) := by
  obtain ⟨h1, h1'⟩ := h
  obtain ⟨h3, h4⟩ := h2
  go_enter Try.func42, Try.ntmps42
  go_wp2
  go_ret
  exact ⟨rfl, alloc_fr _ _ _⟩
end Go.Proofs.Ytfmhdpenodmblaa
