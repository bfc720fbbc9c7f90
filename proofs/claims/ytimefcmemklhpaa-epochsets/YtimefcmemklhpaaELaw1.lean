/- ints, of, do: walks. -/
import Derived.Test.YtimefcmemklhpaaEOps7
namespace Go.Proofs.Ytimefcmemklhpaa.E
open Go.RowKit Go.Maps Go.MuLone

def eqB (a b : List Int) : Bool := decide (a = b)
/-- A list's shape and cells. -/
theorem OwI.at {w : World} {base : Nat} {v : Value} {l : List Int} (h : OwI w base v l) : ∃ ao cap, v = .slice ao l.length cap ∧ l.length ≤ maxLen ∧ (l ≠ [] → ∃ g, ao = some ⟨g, 0, none⟩ ∧ ∀ i, i < l.length → w.cell? ⟨g, i, none⟩ = some (.int .i64 (l.getD i 0))) := by
  rcases h.2 with ⟨rfl, h0⟩ | ⟨g, cap, cur, rfl, _, hg, r1, r2, r3⟩
  · have : l = [] := List.eq_nil_of_length_eq_zero h0
    subst this
    exact ⟨none, 0, rfl, Nat.zero_le _, fun h => absurd rfl h⟩
  · refine ⟨some ⟨g, 0, none⟩, cap, rfl, by omega, fun _ => ⟨g, rfl, fun i hi => ?_⟩⟩
    have h1 := World.ownsRow.cells h (g := g) rfl i (.int .i64 (l.getD i 0)) (by simp [zv, List.getD, hi])
    rw [Addr.add_lit] at h1
    simpa using h1
theorem eq_take {xs ys : List Int} {i : Nat} (hi : i < xs.length) (hl : xs.length = ys.length) (h : xs.take i = ys.take i) (hx : xs.getD i 0 = ys.getD i 0) : xs.take (i + 1) = ys.take (i + 1) := by
  rw [List.take_add_one, List.take_add_one, h]
  congr 1
  rw [List.getD_eq_getElem?_getD, List.getD_eq_getElem?_getD] at hx
  rw [List.getElem?_eq_getElem hi, List.getElem?_eq_getElem (by omega : i < ys.length)] at hx ⊢
  simp at hx
  simp [hx]
set_option maxHeartbeats 2000000 in
set_option maxRecDepth 100000 in
theorem ints_any {w : World} {b1 b2 : Nat} {v u : Value} {xs ys : List Int} (h1 : OwI w b1 v xs) (h2 : OwI w b2 u ys) :
    Calls Try.prog 20 #[v, u] w fun e w' => e = .returned (.bool (eqB xs ys)) ∧ Fr w w' (fun _ => False) := by
  obtain ⟨ao, ac, rfl, am, ag⟩ := h1.at
  obtain ⟨bo, bcap, rfl, bm, bg⟩ := h2.at
  have AG := hid ag
  have BG := hid bg
  unfold maxLen at am bm
  clear h1 h2 ag bg
  by_cases hl : xs.length = ys.length
  · have HL := hid hl
    have hl' : (xs.length : Int) = (ys.length : Int) := by omega
    go_enter Try.func20, Try.ntmps20
    go_wp2_with fail
    clear hl hl'
    go_loopg [5] xs.length (fun g s5 wx => ∃ i : Nat, s5 = .int .i64 (i : Int) ∧ i + g = xs.length ∧ Hid (xs.take i = ys.take i) ∧ Hid (Fr w wx (fun _ => False)))
    case atStart => exact ⟨0, rfl, by omega, rfl, Fr.refl _ _⟩
    case round =>
      obtain ⟨i, rfl, hg, HT, HF⟩ := hrel
      cases gk with
      | zero =>
        have t1 : ¬ (i : Int) < (xs.length : Int) := by omega
        have HI := hid (show i = xs.length by omega)
        clear hg
        go_wp2_with fail
        go_ret
        refine ⟨?_, HF.out⟩
        have h := HT.out
        rw [HI.out, List.take_length, HL.out, List.take_length] at h
        have : eqB xs ys = true := by simp [eqB, h]
        rw [this]
        rfl
      | succ g =>
        have hi : i < xs.length := by omega
        have t1 : (i : Int) < (xs.length : Int) := by omega
        have t2 : (i : Int) < (ys.length : Int) := by have := HL.out; omega
        obtain ⟨g1, rfl, hc1⟩ := AG.out (by rintro rfl; simp at hi)
        obtain ⟨g2, rfl, hc2⟩ := BG.out (by rintro rfl; have := HL.out; simp only [List.length_nil] at this; omega)
        have c1 := hc1 i hi
        have c2 := hc2 i (by have := HL.out; omega)
        have hb := HF.out.below (Nat.le_refl _) (fun _ h => h.elim)
        have b1' := World.block_lt_of_cell? w _ c1
        have b2' := World.block_lt_of_cell? w _ c2
        have d1 : wr.cell? ⟨g1, i, none⟩ = some (.int .i64 (xs.getD i 0)) := (hb.cell (p := ⟨g1, i, none⟩) b1').trans c1
        have d2 : wr.cell? ⟨g2, i, none⟩ = some (.int .i64 (ys.getD i 0)) := (hb.cell (p := ⟨g2, i, none⟩) b2').trans c2
        have HG := hid hg
        have HI := hid hi
        have e1 := World.block_lt_of_cell? wr _ d1
        have e2 := World.block_lt_of_cell? wr _ d2
        dsimp only at e1 e2
        generalize hx : xs.getD i 0 = x at d1
        generalize hy : ys.getD i 0 = y at d2
        have HX := hid hx
        have HY := hid hy
        clear hg hc1 hc2 c1 c2 hb b1' b2' hx hy hi
        by_cases hxy : x = y
        · have HXY := hid hxy
          have t3 : (x != y) = false := by simp [hxy]
          go_wp2_with fail
          go_quiet (fail)
          go_wp2_with fail
          go_roundg g
          case rel =>
            refine ⟨i + 1, by simp, by have := HG.out; omega, ?_, HF.out.drewN nq⟩
            exact eq_take HI.out HL.out HT.out (by rw [HX.out, HY.out, HXY.out])
          case measure => omega
        · have HXY := hid hxy
          have t3 : (x != y) = true := by simp [hxy]
          go_wp2_with fail
          go_quiet (fail)
          go_wp2_with fail
          go_ret
          refine ⟨?_, HF.out.drewN nq⟩
          have : eqB xs ys = false := by
            unfold eqB
            apply decide_eq_false
            rintro rfl
            exact HXY.out (by rw [← HX.out, ← HY.out])
          rw [this]
          rfl
  · have HL := hid hl
    have hl' : ¬ (xs.length : Int) = (ys.length : Int) := by omega
    go_enter Try.func20, Try.ntmps20
    go_wp2_with fail
    go_ret
    refine ⟨?_, Fr.refl _ _⟩
    have : eqB xs ys = false := by
      unfold eqB
      apply decide_eq_false
      rintro rfl
      exact HL.out rfl
    rw [this]
    rfl

/-- A step. -/
structure Stp where
  k : Int
  o : Int
  e : Int
  l : Bool
def stv (s : Stp) : Value := .agg #[.int .i64 s.k, .int .i64 s.o, .int .i64 s.e, .bool s.l]
def Stp.fits (s : Stp) : Prop := E.fits s.k ∧ E.fits s.o ∧ E.fits s.e
/-- The epoch that it means. -/
def ofE (s : Stp) (now : Int) : Int := if s.l then wrap64 (now - s.e) else s.e
theorem wrap_fits (x : Int) : fits (wrap64 x) := by
  unfold fits wrap64
  omega
theorem of_fits {s : Stp} (h : s.fits) (now : Int) : fits (ofE s now) := by
  unfold ofE
  split
  · exact wrap_fits _
  · exact h.2.2
set_option maxHeartbeats 2000000 in
theorem of_any (s : Stp) (now : Int) (w : World) :
    Calls Try.prog 24 #[.agg #[.int .i64 s.k, .int .i64 s.o, .int .i64 s.e, .bool s.l], .int .i64 now] w fun e w' => e = .returned (.int .i64 (ofE s now)) ∧ Fr w w' (fun _ => False) := by
  obtain ⟨k, o, e, l⟩ := s
  dsimp only
  cases l with
  | true =>
    have e0 : ofE ⟨k, o, e, true⟩ now = wrap64 (now - e) := rfl
    rw [e0]
    go_enter Try.func24, Try.ntmps24
    go_wp2_with fail
    go_ret
    exact ⟨rfl, alloc_fr _ _ _⟩
  | false =>
    have e0 : ofE ⟨k, o, e, false⟩ now = e := rfl
    rw [e0]
    go_enter Try.func24, Try.ntmps24
    go_wp2_with fail
    go_ret
    exact ⟨rfl, alloc_fr _ _ _⟩

/-- A book behind a step; whether it was OK. -/
def doB (b : Bo) (s : Stp) : Bo :=
  if s.k = 1 then sealB b s.o else if s.k = 2 then innB b s.o else if s.k = 3 then joinB b s.o (ofE s b.now) else if s.k = 4 then relB b s.o (ofE s b.now)
  else if s.k = 5 then doneB b s.o else if s.k = 6 then dropB b s.o else if s.k = 7 then beginB b else if s.k = 8 then endB b else b
def doR (b : Bo) (s : Stp) : Bool :=
  if s.k = 1 then decide (sealErr b s.o = 0) else if s.k = 2 then decide (innErr b s.o = 0) else if s.k = 3 then decide (joinErr b s.o (ofE s b.now) = 0) else if s.k = 4 then decide (relErr b s.o (ofE s b.now) = 0)
  else if s.k = 5 then decide (doneErr b s.o = 0) else if s.k = 6 then decide (0 < dropN b s.o) else if s.k = 7 then decide (beginErr b = 0) else if s.k = 8 then decide (endErr b = 0) else false
theorem Lf.from {w w0 w' : World} {B : Nat} {m : Nat → Option Nat} {b' : Bo} (h : Lf w w' B m b') (hf : Fr w0 w (fun _ => False)) : Lf w0 w' B m b' := by
  obtain ⟨m', h1, h2, h3⟩ := h
  refine ⟨m', h1, (ow_F hf).trans2 h2 (fun _ _ h => h), fun k hk => ?_⟩
  rcases h3 k hk with h | h
  · exact Or.inl h
  · exact Or.inr (Nat.le_trans hf.size h)

set_option maxHeartbeats 4000000 in
set_option maxRecDepth 100000 in
theorem do_any {w : World} {B : Nat} {m : Nat → Option Nat} {b : Bo} (h : Bk w 0 B m b) (s : Stp) (hs : s.fits) :
    Calls Try.prog 19 #[.pointer (some ⟨B, 0, none⟩), .agg #[.int .i64 s.k, .int .i64 s.o, .int .i64 s.e, .bool s.l]] w fun x w' => x = .returned (.bool (doR b s)) ∧ Lf w w' B m (doB b s) := by
  obtain ⟨sk, so, se, sl⟩ := s
  dsimp only
  have H := hid h
  have HE := hid (of_fits hs b.now)
  have HNo : Hid (∀ W, Fr w W (fun _ => False) → Calls Try.prog 21 #[.pointer (some ⟨B, 0, none⟩)] W fun e w' => e = .returned (.int .i64 b.now) ∧ Fr W w' (fun _ => False)) := fun W hf => now_any (h.step hf)
  have HOf : Hid (∀ W, Calls Try.prog 24 #[.agg #[.int .i64 sk, .int .i64 so, .int .i64 se, .bool sl], .int .i64 b.now] W fun e w' => e = .returned (.int .i64 (ofE ⟨sk, so, se, sl⟩ b.now)) ∧ Fr W w' (fun _ => False)) := fun W => of_any ⟨sk, so, se, sl⟩ b.now W
  have HC : Hid (∀ W, Fr (w.alloc (.cells #[.int .i64 sk, .int .i64 so, .int .i64 se, .bool sl] 32)) W (fun _ => False) → W.cell? ⟨w.heap.size, 0, none⟩ = some (.int .i64 sk) ∧ W.cell? ⟨w.heap.size, 1, none⟩ = some (.int .i64 so) ∧ W.cell? ⟨w.heap.size, 2, none⟩ = some (.int .i64 se) ∧ W.cell? ⟨w.heap.size, 3, none⟩ = some (.bool sl)) := fun W hf => by
    have hb : Below (w.heap.size + 1) (w.alloc (.cells #[.int .i64 sk, .int .i64 so, .int .i64 se, .bool sl] 32)) W := hf.below (by simp) (fun _ h => h.elim)
    exact ⟨(hb.cell (p := ⟨w.heap.size, 0, none⟩) (by simp)).trans (by simp), (hb.cell (p := ⟨w.heap.size, 1, none⟩) (by simp)).trans (by simp), (hb.cell (p := ⟨w.heap.size, 2, none⟩) (by simp)).trans (by simp), (hb.cell (p := ⟨w.heap.size, 3, none⟩) (by simp)).trans (by simp)⟩
  clear h hs
  generalize hE : ofE ⟨sk, so, se, sl⟩ b.now = e at *
  have HEE := hid hE
  clear hE
  go_enter Try.func19, Try.ntmps19
  go_wp2_with fail
  have HA := hid (alloc_fr w (.cells #[.int .i64 sk, .int .i64 so, .int .i64 se, .bool sl] 32) (fun _ => False))
  generalize hwa : w.alloc (.cells #[.int .i64 sk, .int .i64 so, .int .i64 se, .bool sl] 32) = wa at *
  clear hwa
  obtain ⟨c0, c1, c2, c3⟩ := HC.out wa (Fr.refl _ _)
  have HF0 := hid (Fr.refl wa (fun _ => False))
  go_cut [5] from 12 to 15 (fun s wx => s = .int .i64 e ∧ Hid (Fr wa wx (fun _ => False)))
  case first =>
    go_region_held3 (fun W' => Hid (Fr wa W' (fun _ => False)) ∧ W'.cell? ⟨w.heap.size, 0, none⟩ = some (.int .i64 sk) ∧ W'.cell? ⟨w.heap.size, 1, none⟩ = some (.int .i64 so) ∧ W'.cell? ⟨w.heap.size, 2, none⟩ = some (.int .i64 se) ∧ W'.cell? ⟨w.heap.size, 3, none⟩ = some (.bool sl))
      ((refine (fun h => ⟨h, HC.out _ h⟩ : Fr wa _ (fun _ => False) → _) ?_; repeat (first | with_reducible exact HF0.out | with_reducible exact Fr.refl _ _ | with_reducible apply Fr.drew | with_reducible apply Fr.alloc)))
      ((first
        | (go_at_call 21; refine (HNo.out _ (HA.out.trans (by repeat (first | with_reducible exact HF0.out | with_reducible exact Fr.refl _ _ | with_reducible apply Fr.drew | with_reducible apply Fr.alloc)))).mono ?_; rintro x1 w1 ⟨rfl, hf⟩; have HF0 := hid (Fr.trans (a := wa) (by repeat (first | with_reducible exact HF0.out | with_reducible exact Fr.refl _ _ | with_reducible apply Fr.drew | with_reducible apply Fr.alloc)) hf); clear hf)
        | (go_at_call 24; refine (HOf.out _).mono ?_; rintro x1 w1 ⟨rfl, hf⟩; have HF0 := hid (Fr.trans (a := wa) (by repeat (first | with_reducible exact HF0.out | with_reducible exact Fr.refl _ _ | with_reducible apply Fr.drew | with_reducible apply Fr.alloc)) hf); clear hf)))
    all_goals (go_wp2_with fail)
    all_goals go_meet
    all_goals exact ⟨rfl, HF0.out⟩
  case rest =>
    obtain ⟨rfl, HX⟩ := hcut
    obtain ⟨c0, c1, c2, c3⟩ := HC.out _ HX.out
    have HFw := hid (HA.out.trans HX.out)
    have HBw := hid (H.out.step HFw.out)
    by_cases k1 : sk = 1
    · have E1 := hid (show doR b ⟨sk, so, se, sl⟩ = decide (sealErr b so = 0) by unfold doR; dsimp only; rw [if_pos k1])
      have E2 := hid (show doB b ⟨sk, so, se, sl⟩ = sealB b so by unfold doB; dsimp only; rw [if_pos k1])
      subst k1
      go_wp2_with fail
      refine (sealM_any HBw.out so).mono ?_
      rintro xe w3 ⟨rfl, hl3⟩
      have HL3 := hid (hl3.from HFw.out)
      have E3 := hid (show sealErr b so = sealErr b so from rfl)
      generalize sealErr b so = z at E1 E3 ⊢
      clear hl3
      go_wp2_with fail
      go_ret
      rw [E1.out, E2.out]
      exact ⟨rfl, HL3.out⟩
    · by_cases k2 : sk = 2
      · have E1 := hid (show doR b ⟨sk, so, se, sl⟩ = decide (innErr b so = 0) by unfold doR; dsimp only; rw [if_neg k1, if_pos k2])
        have E2 := hid (show doB b ⟨sk, so, se, sl⟩ = innB b so by unfold doB; dsimp only; rw [if_neg k1, if_pos k2])
        subst k2
        go_wp2_with fail
        refine (innM_any HBw.out so).mono ?_
        rintro xe w3 ⟨rfl, hl3⟩
        have HL3 := hid (hl3.from HFw.out)
        have E3 := hid (show innErr b so = innErr b so from rfl)
        generalize innErr b so = z at E1 E3 ⊢
        clear hl3
        go_wp2_with fail
        go_ret
        rw [E1.out, E2.out]
        exact ⟨rfl, HL3.out⟩
      · by_cases k3 : sk = 3
        · have E1 := hid (show doR b ⟨sk, so, se, sl⟩ = decide (joinErr b so e = 0) by unfold doR; dsimp only; rw [if_neg k1, if_neg k2, if_pos k3]; rw [HEE.out])
          have E2 := hid (show doB b ⟨sk, so, se, sl⟩ = joinB b so e by unfold doB; dsimp only; rw [if_neg k1, if_neg k2, if_pos k3]; rw [HEE.out])
          subst k3
          go_wp2_with fail
          refine (joinM_any HBw.out so e HE.out).mono ?_
          rintro xe w3 ⟨rfl, hl3⟩
          have HL3 := hid (hl3.from HFw.out)
          have E3 := hid (show joinErr b so e = joinErr b so e from rfl)
          generalize joinErr b so e = z at E1 E3 ⊢
          clear hl3
          go_wp2_with fail
          go_ret
          rw [E1.out, E2.out]
          exact ⟨rfl, HL3.out⟩
        · by_cases k4 : sk = 4
          · have E1 := hid (show doR b ⟨sk, so, se, sl⟩ = decide (relErr b so e = 0) by unfold doR; dsimp only; rw [if_neg k1, if_neg k2, if_neg k3, if_pos k4]; rw [HEE.out])
            have E2 := hid (show doB b ⟨sk, so, se, sl⟩ = relB b so e by unfold doB; dsimp only; rw [if_neg k1, if_neg k2, if_neg k3, if_pos k4]; rw [HEE.out])
            subst k4
            go_wp2_with fail
            refine (relM_any HBw.out so e HE.out).mono ?_
            rintro xe w3 ⟨rfl, hl3⟩
            have HL3 := hid (hl3.from HFw.out)
            have E3 := hid (show relErr b so e = relErr b so e from rfl)
            generalize relErr b so e = z at E1 E3 ⊢
            clear hl3
            go_wp2_with fail
            go_ret
            rw [E1.out, E2.out]
            exact ⟨rfl, HL3.out⟩
          · by_cases k5 : sk = 5
            · have E1 := hid (show doR b ⟨sk, so, se, sl⟩ = decide (doneErr b so = 0) by unfold doR; dsimp only; rw [if_neg k1, if_neg k2, if_neg k3, if_neg k4, if_pos k5])
              have E2 := hid (show doB b ⟨sk, so, se, sl⟩ = doneB b so by unfold doB; dsimp only; rw [if_neg k1, if_neg k2, if_neg k3, if_neg k4, if_pos k5])
              subst k5
              go_wp2_with fail
              refine (doneM_any HBw.out so).mono ?_
              rintro xe w3 ⟨rfl, hl3⟩
              have HL3 := hid (hl3.from HFw.out)
              have E3 := hid (show doneErr b so = doneErr b so from rfl)
              generalize doneErr b so = z at E1 E3 ⊢
              clear hl3
              go_wp2_with fail
              go_ret
              rw [E1.out, E2.out]
              exact ⟨rfl, HL3.out⟩
            · by_cases k6 : sk = 6
              · have E1 := hid (show doR b ⟨sk, so, se, sl⟩ = decide (0 < dropN b so) by unfold doR; dsimp only; rw [if_neg k1, if_neg k2, if_neg k3, if_neg k4, if_neg k5, if_pos k6])
                have E2 := hid (show doB b ⟨sk, so, se, sl⟩ = dropB b so by unfold doB; dsimp only; rw [if_neg k1, if_neg k2, if_neg k3, if_neg k4, if_neg k5, if_pos k6])
                subst k6
                go_wp2_with fail
                refine (dropM_any HBw.out so).mono ?_
                rintro xe w3 ⟨rfl, hl3⟩
                have HL3 := hid (hl3.from HFw.out)
                have E3 := hid (show dropN b so = dropN b so from rfl)
                generalize dropN b so = z at E1 E3 ⊢
                clear hl3
                go_wp2_with fail
                go_ret
                rw [E1.out, E2.out]
                exact ⟨rfl, HL3.out⟩
              · by_cases k7 : sk = 7
                · have E1 := hid (show doR b ⟨sk, so, se, sl⟩ = decide (beginErr b = 0) by unfold doR; dsimp only; rw [if_neg k1, if_neg k2, if_neg k3, if_neg k4, if_neg k5, if_neg k6, if_pos k7])
                  have E2 := hid (show doB b ⟨sk, so, se, sl⟩ = beginB b by unfold doB; dsimp only; rw [if_neg k1, if_neg k2, if_neg k3, if_neg k4, if_neg k5, if_neg k6, if_pos k7])
                  subst k7
                  go_wp2_with fail
                  refine (beginM_any HBw.out).mono ?_
                  rintro xe w3 ⟨rfl, hl3⟩
                  have HL3 := hid (hl3.from HFw.out)
                  have E3 := hid (show beginErr b = beginErr b from rfl)
                  generalize beginErr b = z at E1 E3 ⊢
                  clear hl3
                  go_wp2_with fail
                  go_ret
                  rw [E1.out, E2.out]
                  exact ⟨rfl, HL3.out⟩
                · by_cases k8 : sk = 8
                  · have E1 := hid (show doR b ⟨sk, so, se, sl⟩ = decide (endErr b = 0) by unfold doR; dsimp only; rw [if_neg k1, if_neg k2, if_neg k3, if_neg k4, if_neg k5, if_neg k6, if_neg k7, if_pos k8])
                    have E2 := hid (show doB b ⟨sk, so, se, sl⟩ = endB b by unfold doB; dsimp only; rw [if_neg k1, if_neg k2, if_neg k3, if_neg k4, if_neg k5, if_neg k6, if_neg k7, if_pos k8])
                    subst k8
                    go_wp2_with fail
                    refine (endM_any HBw.out).mono ?_
                    rintro xe w3 ⟨rfl, hl3⟩
                    have HL3 := hid (hl3.from HFw.out)
                    have E3 := hid (show endErr b = endErr b from rfl)
                    generalize endErr b = z at E1 E3 ⊢
                    clear hl3
                    go_wp2_with fail
                    go_ret
                    rw [E1.out, E2.out]
                    exact ⟨rfl, HL3.out⟩
                  · have E1 := hid (show doR b ⟨sk, so, se, sl⟩ = false by unfold doR; dsimp only; rw [if_neg k1, if_neg k2, if_neg k3, if_neg k4, if_neg k5, if_neg k6, if_neg k7, if_neg k8])
                    have E2 := hid (show doB b ⟨sk, so, se, sl⟩ = b by unfold doB; dsimp only; rw [if_neg k1, if_neg k2, if_neg k3, if_neg k4, if_neg k5, if_neg k6, if_neg k7, if_neg k8])
                    go_wp2_with fail
                    go_ret
                    rw [E1.out, E2.out]
                    exact ⟨rfl, Lf.mk' HBw.out (ow_F HFw.out)⟩
end Go.Proofs.Ytimefcmemklhpaa.E
