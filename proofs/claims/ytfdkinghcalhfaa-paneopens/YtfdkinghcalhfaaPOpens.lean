/- The document's Open; the law PaneOpens: walks. -/
import Derived.Test.YtfdkinghcalhfaaPDel2
import Derived.Test.YtfdkinghcalhfaaPEnds
import Derived.Test.YtfdkinghcalhfaaPStarts
namespace Go.Proofs.Ytfdkinghcalhfaa
open Go.RowKit

/-- What stands in the rounds of the document's Open (w1: behind Starts). -/
structure QI (w1 wx : World) (s l m : Int) (xs : List Int) (v : Value) (i : Nat) : Prop where
  own : wx.ownsRow w1.heap.size 2 1 v (openL s l m (xs.take i)).length (iv (openL s l m (xs.take i)))
  fr : Fr w1 wx (fun _ => False)
theorem QI.call {w1 wx wy : World} {s l m : Int} {xs : List Int} {v : Value} {i : Nat} (h : QI w1 wx s l m xs v i) (hf : Fr wx wy (fun _ => False)) : QI w1 wy s l m xs v i := ⟨own_fr h.own hf (fun _ _ h => h), h.fr.trans hf⟩
theorem QI.skip {w1 wx : World} {s l m : Int} {xs : List Int} {v : Value} {i : Nat} (h : QI w1 wx s l m xs v i) (hi : i < xs.length) (hs : shutB s l m (xs.getD i 0) = true) : QI w1 wx s l m xs v (i + 1) := by
  have e := openL_take (s := s) (l := l) (m := m) hi
  rw [hs, if_pos rfl] at e
  exact ⟨by rw [e]; exact h.own, h.fr⟩
theorem QI.grow {w1 wx w3 : World} {s l m : Int} {xs : List Int} {v v' : Value} {i : Nat} (h : QI w1 wx s l m xs v i) (hi : i < xs.length) (hs : shutB s l m (xs.getD i 0) = false) (o : Obj)
    (hown : w3.ownsRow w1.heap.size 2 1 v' ((openL s l m (xs.take i)).length + 1) (iv (openL s l m (xs.take i)) ++ [.int .i64 (xs.getD i 0)])) (hg : (wx.alloc o).grownBy w3 v.ownBlock) : QI w1 w3 s l m xs v' (i + 1) := by
  have e := openL_take (s := s) (l := l) (m := m) hi
  rw [hs, if_neg (by decide)] at e
  have hb : ∀ k, v.ownBlock = some k → w1.heap.size ≤ k := fun k hk => (h.own.lt k hk).1
  refine ⟨?_, (h.fr.alloc o).grown hg (fun k hk e => by have := hb k e; omega)⟩
  rw [e, iv_append, List.length_append]
  exact hown
theorem openL_take_le (s l m : Int) (xs : List Int) (i : Nat) : (openL s l m (xs.take i)).length ≤ xs.length := by
  have h1 := openL_len s l m (xs.take i)
  have h2 : (xs.take i).length ≤ xs.length := by rw [List.length_take]; omega
  omega

/-- What stands while Closed is asked. -/
structure Q3 (w w1 W : World) (s d l m : Int) (xs : List Int) (v : Value) (i : Nat) (b o : Nat) (x : Int) : Prop where
  vf : VF w s d l W
  q : QI w1 W s l m xs v i
  cell : W.cell? ⟨b, o, none⟩ = some (.int .i64 x)
theorem Q3.step {w w1 W W' : World} {s d l m : Int} {xs : List Int} {v : Value} {i : Nat} {b o : Nat} {x : Int} (h : Q3 w w1 W s d l m xs v i b o x) (hf : Fr W W' (fun _ => False)) : Q3 w w1 W' s d l m xs v i b o x :=
  ⟨h.vf.step hf, h.q.call hf, by rw [(fr_rules hf).1 b o (World.block_lt_of_cell? W _ h.cell)]; exact h.cell⟩
theorem Q3.drew {w w1 W : World} {s d l m : Int} {xs : List Int} {v : Value} {i : Nat} {b o : Nat} {x : Int} (h : Q3 w w1 W s d l m xs v i b o x) : Q3 w w1 W.drew s d l m xs v i b o x := h.step (Fr.refl W _).drew
theorem Q3.alloc {w w1 W : World} {s d l m : Int} {xs : List Int} {v : Value} {i : Nat} {b o : Nat} {x : Int} (h : Q3 w w1 W s d l m xs v i b o x) (ob : Obj) : Q3 w w1 (W.alloc ob) s d l m xs v i b o x := h.step (alloc_fr W ob _)

set_option maxHeartbeats 4000000 in
theorem refOpen_ok {s d l t : Int} (m : Int) (h : OkV s d l) (ht : Ti t) (w : World) : Calls Try.prog 16 #[.agg #[.int .i64 s, .int .i64 d, .int .i64 l], .int .i64 t, .int .i64 m] w fun e w' =>
    ∃ v, e = .returned (.tuple #[v, .int .i64 0]) ∧ Is w' v (openL s l m (startsL s d t)) ∧ Fr w w' (fun _ => False) := by
  have HS := hid (fun W : World => refStarts_ok h ht W)
  have HN := hid (near_starts h ht)
  have HFT := hid (startsL_fits h ht)
  have hl : (startsL s d t).length ≤ 64 := startsL_short h
  clear h ht
  generalize startsL s d t = xs at *
  go_enter Try.func16, Try.ntmps16
  go_wp2_with fail
  refine (HS.out _).mono ?_
  rintro e w1 ⟨v1, rfl, ho, hf⟩
  have HI1 := hid (own_is ho HFT.out (by omega))
  have HA1 := hid ((VF.new w s d l).step hf)
  obtain ⟨a1, cap1, rfl, _, _, _⟩ := HI1.out
  clear ho hf
  go_wp2_with fail
  have HQ : Hid (QI w1 w1 s l m xs (.slice none 0 0) 0) := ⟨World.ownsRow_nil _ _ _ _, Fr.refl _ _⟩
  go_loopg [10, 11] xs.length (fun g s10 s11 wx => ∃ i : Nat, s11 = .int .i64 (i : Int) ∧ i + g = xs.length ∧ Hid (QI w1 wx s l m xs s10 i))
  case atStart => exact ⟨0, rfl, by omega, HQ⟩
  case round =>
    obtain ⟨i, rfl, hg, HQ1⟩ := hrel
    clear HQ
    cases gk with
    | zero =>
      have t1 : ¬ (i : Int) < (xs.length : Int) := by omega
      have HE := hid (show i = xs.length by omega)
      clear hg
      go_wp2_with fail
      go_ret2
      have h1 := HQ1.out.own
      rw [HE.out, List.take_length] at h1
      exact ⟨_, rfl, own_is h1 (fun x hx => HFT.out x ((List.mem_filter.1 hx).1)) (by have := openL_len s l m xs; omega), HA1.out.fr.trans HQ1.out.fr⟩
    | succ g =>
      have hi : i < xs.length := by omega
      have t1 : (i : Int) < (xs.length : Int) := by omega
      have HG := hid hg
      clear hg
      have HIx := hid (HI1.out.fr HQ1.out.fr)
      obtain ⟨a2, cap2, e, _, _, hck⟩ := HIx.out
      obtain ⟨b, off, e2, hck2⟩ := hck (by intro e; subst e; simp at hi)
      cases e
      cases e2
      have hcell := hck2 i hi
      obtain ⟨f0, f1, f2⟩ := HN.out.at hi
      have HC := hid (fun W : World => refClosed_any s d l (xs.getD i 0) m f1 f2 W)
      have HAx := hid (HA1.out.step HQ1.out.fr)
      have HIi := hid hi
      have HLE := hid (openL_take_le s l m xs i)
      obtain ⟨i0, hinfo, hz0, hz1, hz2⟩ := info_parts Try.info_i64
      clear hck hck2 f0 f1 f2
      cases hsb : shutB s l m (xs.getD i 0) with
      | true =>
        have HSB := hid hsb
        have hdec : decide (xs.getD i 0 + s + l ≤ m) = true := hsb
        rw [hdec] at HC
        clear hsb hdec
        generalize hx : xs.getD i 0 = x at *
        have HX := hid hx
        clear hx
        have HQ3 : Hid (Q3 w w1 wr s d l m xs u10 i b (off + i) x) := ⟨HAx.out, HQ1.out, hcell⟩
        clear hcell
        go_wp2_with fail
        first
          | go_region_held3 (fun W' => Hid (Q3 w w1 W' s d l m xs u10 i b (off + i) x) ∧ W'.cell? ⟨b, off + i, none⟩ = some (.int .i64 x) ∧ W'.cell? ⟨w.heap.size, 0, none⟩ = some (.int .i64 s) ∧ W'.cell? ⟨w.heap.size, 1, none⟩ = some (.int .i64 d) ∧ W'.cell? ⟨w.heap.size, 2, none⟩ = some (.int .i64 l))
              ((refine (fun h => ⟨h, h.cell, h.vf.vw.cells⟩ : Q3 w w1 _ s d l m xs u10 i b (off + i) x → _) ?_; repeat (first | exact HQ3.out | apply Q3.drew | apply Q3.alloc)))
              ((go_at_call 20; refine (HC.out _).mono ?_; rintro e v1 ⟨rfl, hf⟩; have HQ3 := hid (Q3.step (by repeat (first | exact HQ3.out | apply Q3.drew | apply Q3.alloc)) hf); clear hf))
          | fail
        all_goals (go_wp2_with fail)
        all_goals go_roundg g
        case measure => omega
        case rel => exact ⟨i + 1, by go_num, by have := HG.out; omega, HQ3.out.q.skip HIi.out (by rw [HX.out]; exact HSB.out)⟩
      | false =>
        have hdec : decide (xs.getD i 0 + s + l ≤ m) = false := hsb
        rw [hdec] at HC
        have HSB := hid hsb
        clear hsb hdec
        generalize hx : xs.getD i 0 = x at *
        have HX := hid hx
        clear hx
        have HQ3 : Hid (Q3 w w1 wr s d l m xs u10 i b (off + i) x) := ⟨HAx.out, HQ1.out, hcell⟩
        clear hcell
        go_wp2_with fail
        first
          | go_region_held3 (fun W' => Hid (Q3 w w1 W' s d l m xs u10 i b (off + i) x) ∧ W'.cell? ⟨b, off + i, none⟩ = some (.int .i64 x) ∧ W'.cell? ⟨w.heap.size, 0, none⟩ = some (.int .i64 s) ∧ W'.cell? ⟨w.heap.size, 1, none⟩ = some (.int .i64 d) ∧ W'.cell? ⟨w.heap.size, 2, none⟩ = some (.int .i64 l))
              ((refine (fun h => ⟨h, h.cell, h.vf.vw.cells⟩ : Q3 w w1 _ s d l m xs u10 i b (off + i) x → _) ?_; repeat (first | exact HQ3.out | apply Q3.drew | apply Q3.alloc)))
              ((go_at_call 20; refine (HC.out _).mono ?_; rintro e v1 ⟨rfl, hf⟩; have HQ3 := hid (Q3.step (by repeat (first | exact HQ3.out | apply Q3.drew | apply Q3.alloc)) hf); clear hf))
          | fail
        have hc3 := HQ3.out.cell
        have hz := HQ3.out.q.fr.size
        have hle := HLE.out
        go_wp2_with (at_builtin; refine wpList_append_own _ rfl _ _ 29 rfl w1.heap.size 2 i0 (.int .i64 0) 1 8 Try.underlying29 hinfo hz0 hz1 hz2 rfl (by decide) _ _ _ rfl (own_fr HQ3.out.q.own (alloc_fr _ _ (fun _ => False)) (fun _ _ h => h)) ⟨_, 0, none⟩ 1 1 [.int .i64 x] rfl rfl (cell_one_new _ _ _) (fun x hx => by simp at hx; subst hx; rfl) (by unfold maxLen; omega) (by omega) (by simp; omega) ?_; intro v' w3 hown3 hgrow3 hnil3; have HQ4 := hid (QI.grow HQ3.out.q HIi.out (by rw [HX.out]; exact HSB.out) _ (by rw [HX.out]; exact hown3) hgrow3); clear hown3 hgrow3 hnil3)
        all_goals go_roundg g
        case measure => omega
        case rel => exact ⟨i + 1, by go_num, by have := HG.out; omega, HQ4⟩

theorem refOpen_bad {s d l t : Int} (m : Int) (h : ¬ OkV s d l) (w : World) : Calls Try.prog 16 #[.agg #[.int .i64 s, .int .i64 d, .int .i64 l], .int .i64 t, .int .i64 m] w fun e w' =>
    e = .returned (.tuple #[.slice none 0 0, .int .i64 23]) ∧ Fr w w' (fun _ => False) := by
  have HS := hid (fun W : World => refStarts_bad (t := t) h W)
  clear h
  go_enter Try.func16, Try.ntmps16
  go_wp2_with fail
  refine (HS.out _).mono ?_
  rintro e w1 ⟨rfl, hf⟩
  have HF := hid ((alloc_fr w _ (fun _ => False)).trans hf)
  clear hf
  go_wp2_with fail
  go_ret2
  exact ⟨rfl, HF.out⟩
theorem refOpen_late {s d l t : Int} (m : Int) (h : OkV s d l) (ht : ¬ Ti t) (w : World) : Calls Try.prog 16 #[.agg #[.int .i64 s, .int .i64 d, .int .i64 l], .int .i64 t, .int .i64 m] w fun e w' =>
    e = .returned (.tuple #[.slice none 0 0, .int .i64 22]) ∧ Fr w w' (fun _ => False) := by
  have HS := hid (fun W : World => refStarts_late (t := t) h ht W)
  clear h ht
  go_enter Try.func16, Try.ntmps16
  go_wp2_with fail
  refine (HS.out _).mono ?_
  rintro e w1 ⟨rfl, hf⟩
  have HF := hid ((alloc_fr w _ (fun _ => False)).trans hf)
  clear hf
  go_wp2_with fail
  go_ret2
  exact ⟨rfl, HF.out⟩
theorem openL_fits {s d l t : Int} (m : Int) (h : OkV s d l) (ht : Ti t) : ∀ x ∈ openL s l m (startsL s d t), fits x := fun x hx => startsL_fits h ht x (List.mem_filter.1 hx).1
theorem openRow_is {w w' : World} {v : Value} {xs : List Int} {n : Nat} (h : OpenRow w w' v xs n) (hf : ∀ x ∈ xs, fits x) (hl : xs.length ≤ 64) : Is w' v xs := by
  obtain ⟨b, rest, rfl, _, hr, _⟩ := h.row
  refine ⟨_, _, rfl, by omega, hf, fun _ => ⟨b, 0, rfl, fun i hi => ?_⟩⟩
  rw [hr.cell, Nat.zero_add, List.getElem?_append_left (by rw [iv_length]; exact hi), iv_get _ i hi]
theorem opens_both (s d l t m : Int) : ∃ (xs : List Int) (r : Int), Tells 15 #[.agg #[.int .i64 s, .int .i64 d, .int .i64 l], .int .i64 t, .int .i64 m] xs r ∧ Tells 16 #[.agg #[.int .i64 s, .int .i64 d, .int .i64 l], .int .i64 t, .int .i64 m] xs r := by
  by_cases h : OkV s d l
  · by_cases ht : Ti t
    · have hl := startsL_short (t := t) h
      have hl2 := openL_len s l m (startsL s d t)
      refine ⟨openL s l m (startsL s d t), 0, fun w => ?_, fun w => ?_⟩
      · refine (open_ok m h ht w).mono ?_
        rintro e w' ⟨v, rfl, ho⟩
        exact ⟨_, rfl, openRow_is ho (openL_fits m h ht) (by omega), ho.fr⟩
      · refine (refOpen_ok m h ht w).mono ?_
        rintro e w' ⟨v, rfl, ho, hfr⟩
        exact ⟨_, rfl, ho, hfr⟩
    · refine ⟨[], 22, fun w => ?_, fun w => ?_⟩
      · refine (open_late m h ht w).mono ?_
        rintro e w' ⟨rfl, hfr⟩
        exact ⟨_, rfl, nil_is _, hfr⟩
      · refine (refOpen_late m h ht w).mono ?_
        rintro e w' ⟨rfl, hfr⟩
        exact ⟨_, rfl, nil_is _, hfr⟩
  · refine ⟨[], 23, fun w => ?_, fun w => ?_⟩
    · refine (open_bad m h w).mono ?_
      rintro e w' ⟨rfl, hfr⟩
      exact ⟨_, rfl, nil_is _, hfr⟩
    · refine (refOpen_bad m h w).mono ?_
      rintro e w' ⟨rfl, hfr⟩
      exact ⟨_, rfl, nil_is _, hfr⟩

set_option maxHeartbeats 1000000 in
theorem paneOpens_walk (s d l t m : Int) (_ : fits s) (_ : fits d) (_ : fits l) (_ : fits t) (_ : fits m) (w : World) : Calls Try.prog 6 #[.agg #[.int .i64 s, .int .i64 d, .int .i64 l], .int .i64 t, .int .i64 m] w fun e w' => e = .returned (.bool true) ∧ Fr w w' (fun _ => False) := by
  have hc : (m < -4611686018427387904) ∨ (¬ m < -4611686018427387904 ∧ 4611686018427387904 < m) ∨ (¬ m < -4611686018427387904 ∧ ¬ 4611686018427387904 < m) := by omega
  rcases hc with t1 | ⟨t1, t2⟩ | ⟨t1, t2⟩
  · go_enter Try.func6, Try.ntmps6
    go_wp2_with fail
    refine (head_any _).mono ?_
    rintro e w4 ⟨rfl, hf4⟩
    have HF4 := hid ((alloc_fr w _ (fun _ => False)).trans hf4)
    clear hf4
    go_wp2_with fail
    go_ret
    exact ⟨rfl, HF4.out⟩
  · go_enter Try.func6, Try.ntmps6
    go_wp2_with fail
    refine (head_any _).mono ?_
    rintro e w4 ⟨rfl, hf4⟩
    have HF4 := hid ((alloc_fr w _ (fun _ => False)).trans hf4)
    clear hf4
    go_wp2_with fail
    go_ret
    exact ⟨rfl, HF4.out⟩
  · obtain ⟨xs, r, h1, h2⟩ := opens_both s d l t m
    have H1 := hid h1
    have H2 := hid h2
    clear h1 h2
    go_enter Try.func6, Try.ntmps6
    go_wp2_with fail
    refine (H1.out _).mono ?_
    rintro e w1 ⟨v1, rfl, hi1, hf1⟩
    have HV1 := hid ((VwAt.new w s d l).fr hf1 (fun h => h))
    have HF1 := hid ((alloc_fr w _ _).trans hf1)
    have HI1 := hid hi1
    clear hf1 hi1
    obtain ⟨c0, c1, c2⟩ := HV1.out.cells
    have hlt := HV1.out.lt
    go_wp2_with fail
    refine (H2.out _).mono ?_
    rintro e w2 ⟨v2, rfl, hi2, hf2⟩
    have HS := hid (same_true v1 v2 xs w2 (HI1.out.fr hf2) hi2)
    have HF2 := hid (HF1.out.trans hf2)
    clear hf2 hi2 c0 c1 c2 hlt
    go_wp2_with fail
    refine HS.out.mono ?_
    rintro e w3 ⟨rfl, hf3⟩
    have HF3 := hid (HF2.out.trans hf3)
    clear hf3
    go_wp2_with fail
    refine (head_any _).mono ?_
    rintro e w4 ⟨rfl, hf4⟩
    have HF4 := hid (HF3.out.trans hf4)
    clear hf4
    go_wp2_with fail
    go_ret
    exact ⟨rfl, HF4.out⟩
end Go.Proofs.Ytfdkinghcalhfaa
