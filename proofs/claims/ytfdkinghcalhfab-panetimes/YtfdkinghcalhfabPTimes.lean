/- The law's has; the law PaneTimes: walks. -/
import Derived.Test.YtfdkinghcalhfabPMore
import Derived.Deep.DeepCutAuto
namespace Go.Proofs.Ytfdkinghcalhfab
open Go.RowKit

set_option maxHeartbeats 1000000 in
theorem has_any {s d l t : Int} (x : Int) (h : OkV s d l) (ht : Ti t) (w : World) : Calls Try.prog 12 #[.agg #[.int .i64 s, .int .i64 d, .int .i64 l], .int .i64 t, .int .i64 x] w fun e w' => e = .returned (.bool (decide (x ∈ startsL s d t))) ∧ Fr w w' (fun _ => False) := by
  have HS := hid (fun W : World => starts_ok h ht W)
  have hl : (startsL s d t).length ≤ 64 := startsL_short h
  clear h ht
  generalize startsL s d t = xs at *
  go_enter Try.func12, Try.ntmps12
  go_wp2_with fail
  refine (HS.out _).mono ?_
  rintro e w1 ⟨b, rfl, hb, hr, hf⟩
  have HF := hid ((alloc_fr w _ (fun _ => False)).trans hf)
  have HR := hid hr
  clear hb hr hf HS
  go_wp2_with fail
  go_loopg [9] xs.length (fun g s9 wx => ∃ i : Nat, s9 = .int .i64 (i : Int) ∧ i + g = xs.length ∧ wx = w1 ∧ Hid (∀ j, j < i → xs.getD j 0 ≠ x))
  case atStart => exact ⟨0, rfl, by omega, rfl, fun j hj => absurd hj (Nat.not_lt_zero j)⟩
  case round =>
    obtain ⟨i, rfl, hg, rfl, HJ⟩ := hrel
    cases gk with
    | zero =>
      have t1 : ¬ (i : Int) < (xs.length : Int) := by omega
      have HE := hid (show i = xs.length by omega)
      clear hg
      have HNO : Hid (decide (x ∈ xs) = false) := by
        refine decide_eq_false (fun hm => ?_)
        obtain ⟨j, hj, e⟩ := List.getElem_of_mem hm
        exact HJ.out j (by have := HE.out; omega) (by simp [List.getD, hj, e])
      go_wp2_with fail
      go_ret
      rw [HNO.out]
      exact ⟨rfl, HF.out⟩
    | succ g =>
      have hi : i < xs.length := by omega
      have t1 : (i : Int) < (xs.length : Int) := by omega
      have HG := hid hg
      have hcell := HR.out.cell i
      rw [iv_get _ i hi] at hcell
      have HI := hid hi
      clear hg
      by_cases hx : xs.getD i 0 = x
      · have HYES : Hid (decide (x ∈ xs) = true) := by
          refine decide_eq_true ?_
          rw [← hx]
          simp [List.getD, hi]
        rw [hx] at hcell
        clear hx hi
        go_wp2_with fail
        go_ret
        rw [HYES.out]
        exact ⟨rfl, HF.out⟩
      · have t2 : (xs.getD i 0 == x) = false := by simpa using hx
        have HX := hid hx
        clear hx hi
        generalize hy : xs.getD i 0 = y at *
        have HY := hid hy
        clear hy
        go_wp2_with fail
        go_roundg g
        case measure => omega
        case rel =>
          refine ⟨i + 1, by go_num, by have := HG.out; omega, rfl, fun j hj => ?_⟩
          rcases Nat.lt_or_ge j i with h | h
          · exact HJ.out j h
          · rw [show j = i by omega, HY.out]
            exact HX.out
theorem has_mem {s d l y k t : Int} (h : OkV s d l) (hy : y = k * d) : y ∈ startsL s d t ↔ y ≤ t ∧ t < y + s := by
  rw [startsL_mem h.s1 h.d1]
  exact ⟨fun ⟨_, _, h1, h2⟩ => ⟨h1, h2⟩, fun ⟨h1, h2⟩ => ⟨k, hy, h1, h2⟩⟩

/-- Has a window that begins at y the time T? -/
def inB (s y T : Int) : Bool := decide (y ≤ T ∧ T < y + s)
theorem has_at {s d l y k : Int} (h : OkV s d l) (hy : y = k * d) (T : Int) (hT : Ti T) (w : World) : Calls Try.prog 12 #[.agg #[.int .i64 s, .int .i64 d, .int .i64 l], .int .i64 T, .int .i64 y] w fun e w' => e = .returned (.bool (inB s y T)) ∧ Fr w w' (fun _ => False) := by
  have e : decide (y ∈ startsL s d T) = inB s y T := by
    unfold inB
    rw [decide_eq_decide]
    exact has_mem h hy
  rw [← e]
  exact has_any y h hT w

/-- What stands in PaneTimes: the view, the row. -/
structure TI (w wx : World) (s d l : Int) (xs : List Int) (b : Nat) : Prop where
  vf : VF w s d l wx
  row : RowV wx b (iv xs)
theorem TI.step {w wx wy : World} {s d l : Int} {xs : List Int} {b : Nat} (h : TI w wx s d l xs b) (hf : Fr wx wy (fun _ => False)) : TI w wy s d l xs b := ⟨h.vf.step hf, h.row.fr hf (fun h => h)⟩
theorem TI.drew {w wx : World} {s d l : Int} {xs : List Int} {b : Nat} (h : TI w wx s d l xs b) : TI w wx.drew s d l xs b := h.step (Fr.refl _ _).drew
theorem TI.alloc {w wx : World} {s d l : Int} {xs : List Int} {b : Nat} (h : TI w wx s d l xs b) (o : Obj) : TI w (wx.alloc o) s d l xs b := h.step (alloc_fr _ _ _)
theorem TI.cells {w wx : World} {s d l : Int} {xs : List Int} {b i : Nat} (h : TI w wx s d l xs b) (hi : i < xs.length) : wx.cell? ⟨b, i, none⟩ = some (.int .i64 (xs.getD i 0)) ∧ wx.cell? ⟨w.heap.size, 0, none⟩ = some (.int .i64 s) ∧ wx.cell? ⟨w.heap.size, 1, none⟩ = some (.int .i64 d) ∧ wx.cell? ⟨w.heap.size, 2, none⟩ = some (.int .i64 l) :=
  ⟨by rw [h.row.cell, iv_get _ i hi], h.vf.vw.cells⟩
theorem tmod_bd (q : Int) {s : Int} (hs : 1 ≤ s) : -(2 * s) < q.tmod (2 * s) ∧ q.tmod (2 * s) < 2 * s := ⟨Int.lt_tmod_of_pos q (by omega), Int.tmod_lt_of_pos q (by omega)⟩

set_option maxRecDepth 100000 in
set_option maxHeartbeats 8000000 in
theorem paneTimes_walk (s d l t q : Int) (_ : fits s) (_ : fits d) (_ : fits l) (_ : fits t) (_ : fits q) (w : World) : Calls Try.prog 3 #[.agg #[.int .i64 s, .int .i64 d, .int .i64 l], .int .i64 t, .int .i64 q] w fun e w' => e = .returned (.bool true) ∧ Fr w w' (fun _ => False) := by
  by_cases h : OkV s d l
  · have HR := hid (fun W : World => right_ok h W)
    have HW := hid (fun W : World => within_any t W)
    obtain ⟨hT1, hT2⟩ := within_bd t
    generalize t.tmod 576460752303423488 = T at *
    have hs1 := h.s1
    have hs2 := h.s2
    have HS := hid (fun W : World => starts_ok (t := T) h (by unfold Ti; omega) W)
    have HV := hid h
    have hlen : (startsL s d T).length ≤ 64 := startsL_short h
    clear h
    go_enter Try.func3, Try.ntmps3
    go_wp2_with fail
    refine (HR.out _).mono ?_
    rintro e w1 ⟨rfl, hf1⟩
    have HA1 := hid ((VF.new w s d l).step hf1)
    clear hf1
    obtain ⟨c0, c1, c2⟩ := HA1.out.vw.cells
    have hlt := HA1.out.vw.lt
    go_wp2_with fail
    refine (HW.out _).mono ?_
    rintro e w1' ⟨rfl, hw1⟩
    subst hw1
    go_wp2_with fail
    refine (HS.out _).mono ?_
    rintro e w2 ⟨b, rfl, hb, hr, hf2⟩
    have HTI : Hid (TI w w2 s d l (startsL s d T) b) := ⟨HA1.out.step hf2, hr⟩
    clear hf2 hr hb HA1 c0 c1 c2 hlt HS HR HW
    generalize hxs : startsL s d T = xs at *
    have HXS := hid hxs
    clear hxs
    go_wp2_with fail
    go_loopg [9] xs.length (fun g s9 wx => ∃ i : Nat, s9 = .int .i64 (i : Int) ∧ i + g = xs.length ∧ Hid (TI w wx s d l xs b))
    case atStart => exact ⟨0, rfl, by omega, HTI⟩
    case round =>
      obtain ⟨i, rfl, hg, HT⟩ := hrel
      clear HTI
      cases gk with
      | zero =>
        have t1 : ¬ (i : Int) < (xs.length : Int) := by omega
        clear hg
        go_wp2_with fail
        refine (head_any _).mono ?_
        rintro e w4 ⟨rfl, hf4⟩
        have HF4 := hid (HT.out.vf.fr.trans hf4)
        clear hf4
        go_wp2_with fail
        go_ret
        exact ⟨rfl, HF4.out⟩
      | succ g =>
        have hi : i < xs.length := by omega
        have t1 : (i : Int) < (xs.length : Int) := by omega
        have HG := hid hg
        clear hg
        obtain ⟨k, hyk, hy1, hy2⟩ := (startsL_mem (x := xs.getD i 0) HV.out.s1 HV.out.d1).1 (by rw [HXS.out]; simp [List.getD, hi])
        have HC := hid (fun (W : World) (h : TI w W s d l xs b) => h.cells hi)
        generalize xs.getD i 0 = y at *
        have hq := tmod_bd q hs1
        obtain ⟨hq1, hq2⟩ := hq
        have hfy : fits (y + s) := by unfold fits; omega
        have HE := hid (fun W : World => end_any s d l y hfy W)
        have HH := hid (fun T hT W => has_at HV.out hyk T hT W)
        have m1 : inB s y y = true := decide_eq_true (by omega)
        have m2 : inB s y (y + s - 1) = true := decide_eq_true (by omega)
        have m3 : inB s y (y + s) = false := decide_eq_false (by omega)
        have m4 : inB s y (y - 1) = false := decide_eq_false (by omega)
        clear hfy
        have HYK := hid hyk
        clear hyk
        have n1 : decide (T < y) = false := by simp; omega
        have n2 : decide (y + s ≤ T) = false := by simp; omega
        have n3 : IntKind.i64.wrap (y + s - y) = s := by rw [wrap_fit (by unfold fits; omega)]; omega
        have n4 : IntKind.i64.wrap (y + s - 1) = y + s - 1 := wrap_fit (by unfold fits; omega)
        have n5 : IntKind.i64.wrap (y - 1) = y - 1 := wrap_fit (by unfold fits; omega)
        have hlt := HT.out.vf.vw.lt
        go_wp2_with fail
        first
          | go_region_held3 (fun W' => Hid (TI w W' s d l xs b) ∧ W'.cell? ⟨b, i, none⟩ = some (.int .i64 y) ∧ W'.cell? ⟨w.heap.size, 0, none⟩ = some (.int .i64 s) ∧ W'.cell? ⟨w.heap.size, 1, none⟩ = some (.int .i64 d) ∧ W'.cell? ⟨w.heap.size, 2, none⟩ = some (.int .i64 l))
              ((refine (fun h => ⟨h, HC.out _ h⟩ : TI w _ s d l xs b → _) ?_; repeat (first | exact HT.out | apply TI.drew | apply TI.alloc)))
              ((go_at_call 11; refine (HE.out _).mono ?_; rintro e v1 ⟨rfl, hf⟩; have HT := hid (TI.step (by repeat (first | exact HT.out | apply TI.drew | apply TI.alloc)) hf); clear hf))
          | fail
        go_upto_region 11 with fail
        go_cut [105] (fun s105 wx => s105 = .bool false ∧ Hid (TI w wx s d l xs b))
        case first =>
          simp only [List.append]
          first
            | go_region_held3 (fun W' => Hid (TI w W' s d l xs b) ∧ W'.cell? ⟨b, i, none⟩ = some (.int .i64 y) ∧ W'.cell? ⟨w.heap.size, 0, none⟩ = some (.int .i64 s) ∧ W'.cell? ⟨w.heap.size, 1, none⟩ = some (.int .i64 d) ∧ W'.cell? ⟨w.heap.size, 2, none⟩ = some (.int .i64 l))
                ((refine (fun h => ⟨h, HC.out _ h⟩ : TI w _ s d l xs b → _) ?_; repeat (first | exact HT.out | apply TI.drew | apply TI.alloc)))
                ((go_at_call 12; refine (HH.out _ (by unfold Ti; omega) _).mono ?_; rintro e v1 ⟨rfl, hf⟩; have HT := hid (TI.step (by repeat (first | exact HT.out | apply TI.drew | apply TI.alloc)) hf); clear hf))
            | fail
          go_wp2_with fail
          go_meet
          exact ⟨rfl, HT⟩
        case rest =>
          obtain ⟨rfl, HT⟩ := hcut
          clear m1 m2 m3 m4 n1 n2 n3 n4 n5
          obtain ⟨c0, c1, c2, c3⟩ := HC.out _ HT.out
          have hs0 : ¬ 2 * s = 0 := by omega
          have n6 : IntKind.i64.wrap (2 * s) = 2 * s := wrap_fit (by unfold fits; omega)
          have n7 : IntKind.i64.wrap (y + q.tmod (2 * s)) = y + q.tmod (2 * s) := wrap_fit (by unfold fits; omega)
          have hk1 : y - 2 * s < y + q.tmod (2 * s) := by omega
          have hk2 : y + q.tmod (2 * s) < y + 2 * s := by omega
          have HTq := hid (fun n => HT.out.step ((Fr.refl _ (fun _ => False)).drewN n))
          go_wp2_with fail
          go_quiet (fail)
          clear c0 c1 c2 c3 n6 n7 hs0 hq1 hq2
          generalize y + q.tmod (2 * s) = K at *
          have hcase : (decide (y ≤ K) = false ∧ inB s y K = false) ∨ (decide (y ≤ K) = true ∧ decide (K < y + s) = true ∧ inB s y K = true) ∨ (decide (y ≤ K) = true ∧ decide (K < y + s) = false ∧ inB s y K = false) := by
            unfold inB
            by_cases h1 : y ≤ K
            · by_cases h2 : K < y + s
              · right; left; simp [h1, h2]
              · right; right; simp [h1, h2]
            · left; simp [h1]
          rcases hcase with ⟨p1, p3⟩ | ⟨p1, p2, p3⟩ | ⟨p1, p2, p3⟩
          · go_wp2_with fail
            refine wp_region_held_drew (S := (fun W' => Hid (TI w W' s d l xs b) ∧ W'.cell? ⟨b, i, none⟩ = some (.int .i64 y) ∧ W'.cell? ⟨w.heap.size, 0, none⟩ = some (.int .i64 s) ∧ W'.cell? ⟨w.heap.size, 1, none⟩ = some (.int .i64 d) ∧ W'.cell? ⟨w.heap.size, 2, none⟩ = some (.int .i64 l))) (by kernel_rfl) ?_ (fun hHeld => ?_)
            · (refine (fun h => ⟨h, HC.out _ h⟩ : TI w _ s d l xs b → _) ?_; repeat (first | exact HT.out | exact HTq.out _ | apply TI.drew | apply TI.alloc))
            refine wpAnyH_take (i := 0) (oi := { dst := some 116, op := Op.load 23 (Operand.tmp 3), type := 23, pos := "outright.go:57", after := #[], guard := none }) (v := ?_) rfl (by kernel_rfl) (by kernel_rfl) (by kernel_rfl) (fun _ _ _ h => h) (Or.inl ⟨by rfl, ?_⟩) (by assumption) ?_
            rotate_left
            · (intro w hSw; (try dsimp only at hSw); go_simp <;> with_reducible rfl)
            try simp only [Act.put, List.setIfInBounds_toArray, List.set_cons_zero, List.set_cons_succ]
            refine wpAnyH_take (i := 1) (oi := { dst := some 117, op := Op.move (Operand.tmp 11), type := 2, pos := "outright.go:57", after := #[], guard := none }) (v := ?_) rfl (by kernel_rfl) (by kernel_rfl) (by kernel_rfl) (fun _ _ _ h => h) (Or.inl ⟨by rfl, ?_⟩) (by assumption) ?_
            rotate_left
            · (intro w hSw; (try dsimp only at hSw); go_simp <;> with_reducible rfl)
            try simp only [Act.put, List.setIfInBounds_toArray, List.set_cons_zero, List.set_cons_succ]
            refine wpAnyH_take (i := 2) (oi := { dst := some 118, op := Op.move (Operand.tmp 7), type := 27, pos := "outright.go:57", after := #[], guard := none }) (v := ?_) rfl (by kernel_rfl) (by kernel_rfl) (by kernel_rfl) (fun _ _ _ h => h) (Or.inl ⟨by rfl, ?_⟩) (by assumption) ?_
            rotate_left
            · (intro w hSw; (try dsimp only at hSw); go_simp <;> with_reducible rfl)
            try simp only [Act.put, List.setIfInBounds_toArray, List.set_cons_zero, List.set_cons_succ]
            refine wpAnyH_take (i := 3) (oi := { dst := some 119, op := Op.move (Operand.tmp 9), type := 3, pos := "outright.go:57", after := #[], guard := none }) (v := ?_) rfl (by kernel_rfl) (by kernel_rfl) (by kernel_rfl) (fun _ _ _ h => h) (Or.inl ⟨by rfl, ?_⟩) (by assumption) ?_
            rotate_left
            · (intro w hSw; (try dsimp only at hSw); go_simp <;> with_reducible rfl)
            try simp only [Act.put, List.setIfInBounds_toArray, List.set_cons_zero, List.set_cons_succ]
            refine wpAnyH_take (i := 4) (oi := { dst := some 120, op := Op.indexAddr 27 (Operand.tmp 118) (Operand.tmp 119), type := 0, pos := "outright.go:57", after := #[{ on := 2, ground := Ground.data }, { on := 3, ground := Ground.data }], guard := none }) (v := ?_) rfl (by kernel_rfl) (by kernel_rfl) (by kernel_rfl) (fun _ _ _ h => h) (Or.inl ⟨by rfl, ?_⟩) (by assumption) ?_
            rotate_left
            · (intro w hSw; (try dsimp only at hSw); go_simp <;> with_reducible rfl)
            try simp only [Act.put, List.setIfInBounds_toArray, List.set_cons_zero, List.set_cons_succ]
            refine wpAnyH_take (i := 5) (oi := { dst := some 121, op := Op.load 2 (Operand.tmp 120), type := 2, pos := "outright.go:57", after := #[{ on := 4, ground := Ground.data }], guard := none }) (v := ?_) rfl (by kernel_rfl) (by kernel_rfl) (by kernel_rfl) (fun _ _ _ h => h) (Or.inl ⟨by rfl, ?_⟩) (by assumption) ?_
            rotate_left
            · (intro w hSw; (try dsimp only at hSw); go_simp <;> with_reducible rfl)
            try simp only [Act.put, List.setIfInBounds_toArray, List.set_cons_zero, List.set_cons_succ]
            refine wpAnyH_take (i := 7) (oi := { dst := some 123, op := Op.move (Operand.tmp 11), type := 2, pos := "outright.go:57", after := #[], guard := none }) (v := ?_) rfl (by kernel_rfl) (by kernel_rfl) (by kernel_rfl) (fun _ _ _ h => h) (Or.inl ⟨by rfl, ?_⟩) (by assumption) ?_
            rotate_left
            · (intro w hSw; (try dsimp only at hSw); go_simp <;> with_reducible rfl)
            try simp only [Act.put, List.setIfInBounds_toArray, List.set_cons_zero, List.set_cons_succ]
            refine wpAnyH_take (i := 8) (oi := { dst := some 124, op := Op.move (Operand.tmp 7), type := 27, pos := "outright.go:57", after := #[], guard := none }) (v := ?_) rfl (by kernel_rfl) (by kernel_rfl) (by kernel_rfl) (fun _ _ _ h => h) (Or.inl ⟨by rfl, ?_⟩) (by assumption) ?_
            rotate_left
            · (intro w hSw; (try dsimp only at hSw); go_simp <;> with_reducible rfl)
            try simp only [Act.put, List.setIfInBounds_toArray, List.set_cons_zero, List.set_cons_succ]
            refine wpAnyH_take (i := 9) (oi := { dst := some 125, op := Op.move (Operand.tmp 9), type := 3, pos := "outright.go:57", after := #[], guard := none }) (v := ?_) rfl (by kernel_rfl) (by kernel_rfl) (by kernel_rfl) (fun _ _ _ h => h) (Or.inl ⟨by rfl, ?_⟩) (by assumption) ?_
            rotate_left
            · (intro w hSw; (try dsimp only at hSw); go_simp <;> with_reducible rfl)
            try simp only [Act.put, List.setIfInBounds_toArray, List.set_cons_zero, List.set_cons_succ]
            refine wpAnyH_take (i := 10) (oi := { dst := some 126, op := Op.indexAddr 27 (Operand.tmp 124) (Operand.tmp 125), type := 0, pos := "outright.go:57", after := #[{ on := 8, ground := Ground.data }, { on := 9, ground := Ground.data }], guard := none }) (v := ?_) rfl (by kernel_rfl) (by kernel_rfl) (by kernel_rfl) (fun _ _ _ h => h) (Or.inl ⟨by rfl, ?_⟩) (by assumption) ?_
            rotate_left
            · (intro w hSw; (try dsimp only at hSw); go_simp <;> with_reducible rfl)
            try simp only [Act.put, List.setIfInBounds_toArray, List.set_cons_zero, List.set_cons_succ]
            refine wpAnyH_take (i := 11) (oi := { dst := some 127, op := Op.load 2 (Operand.tmp 126), type := 2, pos := "outright.go:57", after := #[{ on := 10, ground := Ground.data }], guard := none }) (v := ?_) rfl (by kernel_rfl) (by kernel_rfl) (by kernel_rfl) (fun _ _ _ h => h) (Or.inl ⟨by rfl, ?_⟩) (by assumption) ?_
            rotate_left
            · (intro w hSw; (try dsimp only at hSw); go_simp <;> with_reducible rfl)
            try simp only [Act.put, List.setIfInBounds_toArray, List.set_cons_zero, List.set_cons_succ]
            refine wpAnyH_take (i := 12) (oi := { dst := some 128, op := Op.binOp BinOp.geq 2 (Operand.tmp 123) (Operand.tmp 127) 2, type := 4, pos := "outright.go:57", after := #[{ on := 7, ground := Ground.data }, { on := 11, ground := Ground.data }], guard := none }) (v := ?_) rfl (by kernel_rfl) (by kernel_rfl) (by kernel_rfl) (fun _ _ _ h => h) (Or.inl ⟨by rfl, ?_⟩) (by assumption) ?_
            rotate_left
            · (intro w hSw; (try dsimp only at hSw); go_simp <;> with_reducible rfl)
            try simp only [Act.put, List.setIfInBounds_toArray, List.set_cons_zero, List.set_cons_succ]
            refine wpAnyH_ready (rs := [6]) (by kernel_rfl) (by simp) ?_
            refine AllReadyH.cons (o := { dst := some 122, op := Op.call { callee := Callee.value (Operand.func 12), args := #[Operand.tmp 116, Operand.tmp 117, Operand.tmp 121], argTypes := #[23, 2, 2] }, type := 4, pos := "outright.go:57", after := #[{ on := 0, ground := Ground.data }, { on := 1, ground := Ground.data }, { on := 5, ground := Ground.data }], guard := none }) rfl (fun K hK => ?_) AllReadyH.nil
            go_simp
            go_at_call 12
            refine (HH.out _ (by unfold Ti; omega) _).mono ?_
            rintro e v5 ⟨rfl, hf5⟩
            have HT5 : Hid (TI w v5 s d l xs b) := TI.step (by repeat (first | exact HT.out | exact HTq.out _ | apply TI.drew | apply TI.alloc)) hf5
            clear hf5
            go_wp2_with fail
            refine hK.out _ _ ?_ (fun hHeld2 => ?_)
            · (refine (fun h => ⟨h, HC.out _ h⟩ : TI w _ s d l xs b → _) ?_; repeat (first | exact HT5.out | exact HT.out | exact HTq.out _ | apply TI.drew | apply TI.alloc))
            clear hK K hHeld
            have hHeld := hHeld2
            clear hHeld2
            try simp only [Act.put, List.setIfInBounds_toArray, List.set_cons_zero, List.set_cons_succ]
            refine wpAnyH_take (i := 13) (oi := { dst := some 129, op := Op.move (Operand.tmp 128), type := 4, pos := "outright.go:57", after := #[{ on := 12, ground := Ground.data }, { on := 6, ground := Ground.chain }], guard := none }) (v := ?_) rfl (by kernel_rfl) (by kernel_rfl) (by kernel_rfl) (fun _ _ _ h => h) (Or.inl ⟨by rfl, ?_⟩) (by assumption) ?_
            rotate_left
            · (intro w hSw; (try dsimp only at hSw); go_simp <;> with_reducible rfl)
            try simp only [Act.put, List.setIfInBounds_toArray, List.set_cons_zero, List.set_cons_succ]
            refine wpAnyH_take (i := 14) (oi := { dst := some 130, op := Op.move (Operand.tmp 11), type := 2, pos := "outright.go:57", after := #[{ on := 13, ground := Ground.guard }], guard := some (13, true) }) (v := undef) rfl (by kernel_rfl) (by kernel_rfl) (by kernel_rfl) (fun _ _ _ h => h) (Or.inr ⟨by rfl, rfl⟩) (by assumption) ?_
            try simp only [Act.put, List.setIfInBounds_toArray, List.set_cons_zero, List.set_cons_succ]
            refine wpAnyH_take (i := 15) (oi := { dst := some 131, op := Op.move (Operand.tmp 10), type := 2, pos := "outright.go:57", after := #[{ on := 13, ground := Ground.guard }], guard := some (13, true) }) (v := undef) rfl (by kernel_rfl) (by kernel_rfl) (by kernel_rfl) (fun _ _ _ h => h) (Or.inr ⟨by rfl, rfl⟩) (by assumption) ?_
            try simp only [Act.put, List.setIfInBounds_toArray, List.set_cons_zero, List.set_cons_succ]
            refine wpAnyH_take (i := 16) (oi := { dst := some 132, op := Op.binOp BinOp.lss 2 (Operand.tmp 130) (Operand.tmp 131) 2, type := 4, pos := "outright.go:57", after := #[{ on := 14, ground := Ground.data }, { on := 15, ground := Ground.data }, { on := 13, ground := Ground.guard }], guard := some (13, true) }) (v := undef) rfl (by kernel_rfl) (by kernel_rfl) (by kernel_rfl) (fun _ _ _ h => h) (Or.inr ⟨by rfl, rfl⟩) (by assumption) ?_
            try simp only [Act.put, List.setIfInBounds_toArray, List.set_cons_zero, List.set_cons_succ]
            refine wpAnyH_take (i := 17) (oi := { dst := some 133, op := Op.pick (Operand.tmp 129) (Operand.tmp 132) (Operand.const (Value.bool false)), type := 4, pos := "outright.go:57", after := #[{ on := 13, ground := Ground.data }, { on := 16, ground := Ground.data }], guard := none }) (v := ?_) rfl (by kernel_rfl) (by kernel_rfl) (by kernel_rfl) (fun _ _ _ h => h) (Or.inl ⟨by rfl, ?_⟩) (by assumption) ?_
            rotate_left
            · (intro w hSw; (try dsimp only at hSw); go_simp <;> with_reducible rfl)
            try simp only [Act.put, List.setIfInBounds_toArray, List.set_cons_zero, List.set_cons_succ]
            refine wpAnyH_take (i := 18) (oi := { dst := some 134, op := Op.binOp BinOp.neq 4 (Operand.tmp 122) (Operand.tmp 133) 4, type := 4, pos := "outright.go:57", after := #[{ on := 6, ground := Ground.data }, { on := 17, ground := Ground.data }], guard := none }) (v := ?_) rfl (by kernel_rfl) (by kernel_rfl) (by kernel_rfl) (fun _ _ _ h => h) (Or.inl ⟨by rfl, ?_⟩) (by assumption) ?_
            rotate_left
            · (intro w hSw; (try dsimp only at hSw); go_simp <;> with_reducible rfl)
            try simp only [Act.put, List.setIfInBounds_toArray, List.set_cons_zero, List.set_cons_succ]
            refine wpAnyH_done (by kernel_rfl) ?_ _
            go_wp2_with fail
            go_roundg g
            all_goals (first | exact ⟨i + 1, by go_num, by have := HG.out; omega, HT5⟩ | omega)
          · go_wp2_with fail
            first
              | go_region_held3 (fun W' => Hid (TI w W' s d l xs b) ∧ W'.cell? ⟨b, i, none⟩ = some (.int .i64 y) ∧ W'.cell? ⟨w.heap.size, 0, none⟩ = some (.int .i64 s) ∧ W'.cell? ⟨w.heap.size, 1, none⟩ = some (.int .i64 d) ∧ W'.cell? ⟨w.heap.size, 2, none⟩ = some (.int .i64 l))
                  ((refine (fun h => ⟨h, HC.out _ h⟩ : TI w _ s d l xs b → _) ?_; repeat (first | exact HT.out | exact HTq.out _ | apply TI.drew | apply TI.alloc)))
                  ((go_at_call 12; refine (HH.out _ (by unfold Ti; omega) _).mono ?_; rintro e v1 ⟨rfl, hf⟩; have HT := hid (TI.step (by repeat (first | exact HT.out | exact HTq.out _ | apply TI.drew | apply TI.alloc)) hf); clear hf))
              | fail
            all_goals (go_wp2_with fail)
            all_goals go_roundg g
            all_goals (first | exact ⟨i + 1, by go_num, by have := HG.out; omega, HT⟩ | omega)
          · go_wp2_with fail
            first
              | go_region_held3 (fun W' => Hid (TI w W' s d l xs b) ∧ W'.cell? ⟨b, i, none⟩ = some (.int .i64 y) ∧ W'.cell? ⟨w.heap.size, 0, none⟩ = some (.int .i64 s) ∧ W'.cell? ⟨w.heap.size, 1, none⟩ = some (.int .i64 d) ∧ W'.cell? ⟨w.heap.size, 2, none⟩ = some (.int .i64 l))
                  ((refine (fun h => ⟨h, HC.out _ h⟩ : TI w _ s d l xs b → _) ?_; repeat (first | exact HT.out | exact HTq.out _ | apply TI.drew | apply TI.alloc)))
                  ((go_at_call 12; refine (HH.out _ (by unfold Ti; omega) _).mono ?_; rintro e v1 ⟨rfl, hf⟩; have HT := hid (TI.step (by repeat (first | exact HT.out | exact HTq.out _ | apply TI.drew | apply TI.alloc)) hf); clear hf))
              | fail
            all_goals (go_wp2_with fail)
            all_goals go_roundg g
            all_goals (first | exact ⟨i + 1, by go_num, by have := HG.out; omega, HT⟩ | omega)
  · have HR := hid (fun W : World => right_bad h W)
    clear h
    go_enter Try.func3, Try.ntmps3
    go_wp2_with fail
    refine (HR.out _).mono ?_
    rintro e w1 ⟨rfl, hf1⟩
    have HF1 := hid ((alloc_fr w _ _).trans hf1)
    clear hf1
    go_wp2_with fail
    refine (head_any _).mono ?_
    rintro e w3 ⟨rfl, hf3⟩
    have HF3 := hid (HF1.out.trans hf3)
    clear hf3
    go_wp2_with fail
    go_ret
    exact ⟨rfl, HF3.out⟩
end Go.Proofs.Ytfdkinghcalhfab
