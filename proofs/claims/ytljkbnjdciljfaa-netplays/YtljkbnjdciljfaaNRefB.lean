/- net: the document's net: Under, Heard: walks. -/
import Derived.Test.YtljkbnjdciljfaaNRefA
namespace Go.Proofs.Ytljkbnjdciljfaa
open Go.RowKit
attribute [local go_sem ↓] Go.wp_at_zero Go.wp_at_succ

set_option maxHeartbeats 4000000 in
set_option maxRecDepth 100000 in
theorem runder_any {W : World} {lo : Nat} {g : Rx} {s : Np} (h : RN W lo g s) (c : Int) : Calls Try.prog 46 #[.pointer (some ⟨g.G, 0, none⟩), .int .i64 c] W fun e w' => e = .returned (.tuple #[.int .i64 (undI s c : Int), .int .i64 (undO s c : Int)]) ∧ Fr W w' (fun _ => False) := by
  have HI := hid (is_any c W)
  cases hc : isC c with
  | false =>
    have h1 : undI s c = 0 := by unfold undI Np.at; rw [hc]; rfl
    have h2 : undO s c = 0 := by unfold undO Np.at; rw [hc]; rfl
    rw [h1, h2]
    rw [hc] at HI
    go_enter Try.func46, Try.ntmps46
    go_wp2_with fail
    refine HI.out.mono ?_
    rintro e w1 ⟨rfl, h9⟩
    obtain rfl : W = w1 := h9.symm
    clear h9
    go_wp2
    go_ret2
    exact ⟨rfl, Fr.refl _ _⟩
  | true =>
    rw [hc] at HI
    obtain ⟨n, rfl, hn1, hn2⟩ := isC_nat hc
    obtain ⟨-, -, g2, -, -, gl⟩ := h.cells
    obtain ⟨-, -, -, ⟨a3, k3, a4, k4, a5, k5, a6, k6, c3, c4, c5, -, -⟩, -, hl⟩ := h.co (n := n) (by omega)
    have t0 : (0 : Int) ≤ (n : Int) := by omega
    have t1 : (n : Int) < 65 := by omega
    have e1 : undI s n = (cOf s n).w.length + (cOf s n).i.length := by
      unfold undI
      rw [at_of hc]
      cases hx : s.c n with
      | none => rw [c_none hx]; rfl
      | some x => rw [c_of hx]
    have e2 : undO s n = (cOf s n).o.length := by
      unfold undO
      rw [at_of hc]
      cases hx : s.c n with
      | none => rw [c_none hx]; rfl
      | some x => rw [c_of hx]
    have hwf : (cOf s n).w.length ≤ 1048576 ∧ (cOf s n).i.length ≤ 131072 := by
      cases hx : s.c n with
      | none => rw [c_none hx]; simp [cp0]
      | some x =>
        rw [c_of hx]
        have h1 := wf_at h.wf (c := (n : Int)) (by rw [at_of hc]; exact hx)
        have := h.wf.a
        exact ⟨h1.2.1, by omega⟩
    obtain ⟨hw1, hw2⟩ := hwf
    rw [e1, e2, Int.natCast_add]
    clear h hc e1 e2
    generalize (cOf s n).w.length = l3 at *
    generalize (cOf s n).i.length = l4 at *
    generalize (cOf s n).o.length = l5 at *
    have hwr : IntKind.i64.wrap ((l3 : Int) + (l4 : Int)) = (l3 : Int) + (l4 : Int) := wrap_fit (by unfold fits; omega)
    go_enter Try.func46, Try.ntmps46
    go_wp2_with fail
    refine HI.out.mono ?_
    rintro e w1 ⟨rfl, h9⟩
    obtain rfl : W = w1 := h9.symm
    clear h9
    go_wp2_with fail
    go_quiet (fail)
    go_wp2
    go_ret2
    exact ⟨rfl, (Fr.refl _ _).drewN _⟩
set_option maxHeartbeats 8000000 in
set_option maxRecDepth 100000 in
theorem rheard_any {W : World} {lo : Nat} {g : Rx} {s : Np} (h : RN W lo g s) (hsm : s.m ≤ 70368744177664) (c : Int) : Calls Try.prog 44 #[.pointer (some ⟨g.G, 0, none⟩), .int .i64 c] W fun e w' => ∃ u, e = .returned (.tuple #[u, .bool (heardN s c)]) ∧ Rw w' lo 5 u (heardB s c) ∧ Fr W w' (fun _ => False) := by
  have HI := hid (is_any c W)
  cases hc : isC c with
  | false =>
    have h1 : heardN s c = false := by unfold heardN Np.at; rw [hc]; rfl
    have h2 : heardB s c = [] := by unfold heardB Np.at; rw [hc]; rfl
    rw [h1, h2]
    rw [hc] at HI
    go_enter Try.func44, Try.ntmps44
    go_wp2_with fail
    refine HI.out.mono ?_
    rintro e w1 ⟨rfl, h9⟩
    obtain rfl : W = w1 := h9.symm
    clear h9
    go_wp2
    go_ret2
    exact ⟨_, rfl, Rw.nil _ _ _, Fr.refl _ _⟩
  | true =>
    rw [hc] at HI
    obtain ⟨n, rfl, hn1, hn2⟩ := isC_nat hc
    obtain ⟨-, -, g2, -, -, gl⟩ := h.cells
    obtain ⟨c0, c1, c2, ⟨a3, k3, a4, k4, a5, k5, a6, k6, c3, c4, c5, c6, -, -, -, -, -, -, -, p6⟩, -, hl⟩ := h.co (n := n) (by omega)
    have t0 : (0 : Int) ≤ (n : Int) := by omega
    have t1 : (n : Int) < 65 := by omega
    cases hx : s.c n with
    | none =>
      have h1 : heardN s n = false := by unfold heardN; rw [at_of hc, hx]
      have h2 : heardB s n = [] := by unfold heardB; rw [at_of hc, hx]
      rw [h1, h2]
      rw [hx] at c0
      clear h hc h1 h2 c1 c2 c3 c4 c5 c6 p6
      go_enter Try.func44, Try.ntmps44
      go_wp2_with fail
      refine HI.out.mono ?_
      rintro e w1 ⟨rfl, h9⟩
      obtain rfl : W = w1 := h9.symm
      clear h9
      go_wp2
      go_ret2
      exact ⟨_, rfl, Rw.nil _ _ _, Fr.refl _ _⟩
    | some x =>
      rw [hx] at c0
      rw [c_of hx] at c1 c2 c3 c4 c5 c6 p6
      have h1 : heardN s n = (x.ct || (x.cl && decide (x.o.length = 0))) := by unfold heardN; rw [at_of hc, hx]; rfl
      have h2 : heardB s n = x.h := by unfold heardB; rw [at_of hc, hx]
      rw [h1, h2]
      have hhl : x.h.length ≤ 70368744177664 := by
        have := (wf_at h.wf (c := (n : Int)) (by rw [at_of hc]; exact hx)).2.2.2.1
        omega
      have HLO : Hid (lo ≤ W.heap.size) := h.lo.2.2
      have HP6 := hid p6
      obtain ⟨XH, hXH⟩ : ∃ X, x.h.length = X := ⟨_, rfl⟩
      have HXH := hid hXH
      rw [hXH] at c6 HP6 hhl
      have HJ : Hid (∀ w2, Fr W w2 (fun _ => False) → Calls Try.prog 66 #[.slice a6 XH k6, .slice none 0 0] w2 fun e w' => ∃ v cap, e = .returned (.slice v XH cap) ∧ Rw w' lo 5 (.slice v XH cap) x.h ∧ Fr w2 w' (fun _ => False)) := fun w2 hf2 => by
        refine (join_any (lo := lo) w2 (rw_bsR (HP6.out.fr hf2 (fun _ _ h => h)) HXH.out).1 (Or.inl ⟨rfl, rfl⟩ : Bs w2 (.slice none 0 0) []) HXH.out rfl (by omega) (Nat.le_trans HLO.out hf2.size)).mono ?_
        rintro e w' ⟨v, cap, he, h3, h4, h5⟩
        rw [List.append_nil] at h3
        exact ⟨v, cap, he, h3, h5⟩
      clear h hc h1 h2 p6 HP6 hXH HXH HLO hsm hx
      generalize x.w.length = XW at *
      generalize x.i.length = XI at *
      generalize x.o.length = XO at *
      generalize x.cl = b1 at *
      generalize x.ct = b2 at *
      have HF := hid (alloc_fr W (.cells #[.bool true, .bool b1, .bool b2, .slice a3 XW k3, .slice a4 XI k4, .slice a5 XO k5, .slice a6 XH k6] 99) (fun _ => False))
      have HB := hid (Bx7.new W (.bool true) (.bool b1) (.bool b2) (.slice a3 XW k3) (.slice a4 XI k4) (.slice a5 XO k5) (.slice a6 XH k6))
      obtain ⟨B, hB⟩ : ∃ B, decide (XO = 0) = B := ⟨_, rfl⟩
      have hB1 : ((XO : Int) == 0) = B := by rw [← hB]; by_cases h0 : XO = 0 <;> simp [h0]
      have hB2 : decide ((XO : Int) = 0) = B := by rw [← hB]; by_cases h0 : XO = 0 <;> simp [h0]
      rw [hB]
      clear hB
      have key : b2 = true ∨ (b2 = false ∧ b1 = false) ∨ (b2 = false ∧ b1 = true) := by
        cases b2 <;> cases b1 <;> simp
      rcases key with rfl | ⟨rfl, rfl⟩ | ⟨rfl, rfl⟩
      · go_enter Try.func44, Try.ntmps44
        go_wp2_with fail
        refine HI.out.mono ?_
        rintro e w1 ⟨rfl, h9⟩
        obtain rfl : W = w1 := h9.symm
        clear h9
        go_upto_region 4 with fail
        have HF9 := hid HF.out
        clear HF
        generalize W.alloc _ = w2 at *
        have HCL : Hid (∀ wj, Fr w2 wj (fun _ => False) → (fun W' => W'.cell? ⟨W.heap.size, 1, none⟩ = some (.bool b1) ∧ W'.cell? ⟨W.heap.size, 2, none⟩ = some (.bool true) ∧ W'.cell? ⟨W.heap.size, 5, none⟩ = some (.slice a5 XO k5) ∧ W'.cell? ⟨W.heap.size, 6, none⟩ = some (.slice a6 XH k6) ∧ W.heap.size < W'.heap.size) wj) := fun wj hf => by
          obtain ⟨-, y1, y2, -, -, y5, y6, yl, -⟩ := (HB.out.fr hf (fun h => h)).cells
          exact ⟨y1, y2, y5, y6, yl⟩
        refine wp_region_held_drew (S := (fun W' => W'.cell? ⟨W.heap.size, 1, none⟩ = some (.bool b1) ∧ W'.cell? ⟨W.heap.size, 2, none⟩ = some (.bool true) ∧ W'.cell? ⟨W.heap.size, 5, none⟩ = some (.slice a5 XO k5) ∧ W'.cell? ⟨W.heap.size, 6, none⟩ = some (.slice a6 XH k6) ∧ W.heap.size < W'.heap.size)) (by kernel_rfl) (HCL.out _ (Fr.refl _ _).drew) (fun hHeld => ?_)
        refine wpAnyH_take (i := 0) (oi := { dst := some 28, op := Op.fieldAddr 99 (Operand.tmp 6) 6, type := 0, pos := "ref.go:185", after := #[], guard := none }) (v := .pointer (some ⟨W.heap.size, 6, none⟩)) rfl (by kernel_rfl) (by kernel_rfl) (by kernel_rfl) (fun _ _ _ h => h) (Or.inl ⟨by kernel_rfl, fun W hW => by obtain ⟨s1, s2, s5, s6, s7⟩ := hW; go_simp⟩) hHeld ?_
        try simp only [Act.put, List.setIfInBounds_toArray, List.set_cons_zero, List.set_cons_succ]
        refine wpAnyH_take (i := 1) (oi := { dst := some 29, op := Op.load 33 (Operand.tmp 28), type := 33, pos := "ref.go:185", after := #[{ on := 0, ground := Ground.data }], guard := none }) (v := .slice a6 XH k6) rfl (by kernel_rfl) (by kernel_rfl) (by kernel_rfl) (fun _ _ _ h => h) (Or.inl ⟨by kernel_rfl, fun W hW => by obtain ⟨s1, s2, s5, s6, s7⟩ := hW; go_simp⟩) hHeld ?_
        try simp only [Act.put, List.setIfInBounds_toArray, List.set_cons_zero, List.set_cons_succ]
        refine wpAnyH_take (i := 3) (oi := { dst := some 31, op := Op.fieldAddr 99 (Operand.tmp 6) 2, type := 0, pos := "ref.go:185", after := #[], guard := none }) (v := .pointer (some ⟨W.heap.size, 2, none⟩)) rfl (by kernel_rfl) (by kernel_rfl) (by kernel_rfl) (fun _ _ _ h => h) (Or.inl ⟨by kernel_rfl, fun W hW => by obtain ⟨s1, s2, s5, s6, s7⟩ := hW; go_simp⟩) hHeld ?_
        try simp only [Act.put, List.setIfInBounds_toArray, List.set_cons_zero, List.set_cons_succ]
        refine wpAnyH_take (i := 4) (oi := { dst := some 32, op := Op.load 4 (Operand.tmp 31), type := 4, pos := "ref.go:185", after := #[{ on := 3, ground := Ground.data }], guard := none }) (v := .bool true) rfl (by kernel_rfl) (by kernel_rfl) (by kernel_rfl) (fun _ _ _ h => h) (Or.inl ⟨by kernel_rfl, fun W hW => by obtain ⟨s1, s2, s5, s6, s7⟩ := hW; go_simp⟩) hHeld ?_
        try simp only [Act.put, List.setIfInBounds_toArray, List.set_cons_zero, List.set_cons_succ]
        refine wpAnyH_ready (rs := [2]) (by kernel_rfl) (by simp) ?_
        refine AllReadyH.cons (o := { dst := some 30, op := Op.call { callee := Callee.value (Operand.func 66), args := #[Operand.tmp 29, Operand.const (Value.slice none 0 0)], argTypes := #[33, 33] }, type := 33, pos := "ref.go:185", after := #[{ on := 1, ground := Ground.data }], guard := none }) rfl (fun K hK => ?_) AllReadyH.nil
        go_simp
        refine (HJ.out _ HF9.out.drew).mono ?_
        rintro e wj ⟨v, cap, rfl, hv, hf4⟩
        have HV := hid hv
        have HFJ := hid (HF9.out.drew.trans hf4)
        have HSJ := hid (HCL.out wj ((Fr.refl w2 (fun _ => False)).drew.trans hf4))
        clear hv hf4
        go_wp2_with fail
        refine hK.out _ _ HSJ.out (fun hHeld1 => ?_)
        clear hK K
        try simp only [Act.put, List.setIfInBounds_toArray, List.set_cons_zero, List.set_cons_succ]
        refine wpAnyH_take (i := 5) (oi := { dst := some 33, op := Op.move (Operand.tmp 32), type := 4, pos := "ref.go:185", after := #[{ on := 4, ground := Ground.data }, { on := 2, ground := Ground.chain }], guard := none }) (v := .bool true) rfl (by kernel_rfl) (by kernel_rfl) (by kernel_rfl) (fun _ _ _ h => h) (Or.inl ⟨by kernel_rfl, fun W hW => by obtain ⟨s1, s2, s5, s6, s7⟩ := hW; go_simp⟩) hHeld1 ?_
        try simp only [Act.put, List.setIfInBounds_toArray, List.set_cons_zero, List.set_cons_succ]
        refine wpAnyH_take (i := 6) (oi := { dst := some 34, op := Op.fieldAddr 99 (Operand.tmp 6) 1, type := 0, pos := "ref.go:185", after := #[{ on := 5, ground := Ground.guard }], guard := some (5, false) }) (v := undef) rfl (by kernel_rfl) (by kernel_rfl) (by kernel_rfl) (fun _ _ _ h => h) (Or.inr ⟨by kernel_rfl, rfl⟩) hHeld1 ?_
        try simp only [Act.put, List.setIfInBounds_toArray, List.set_cons_zero, List.set_cons_succ]
        refine wpAnyH_take (i := 7) (oi := { dst := some 35, op := Op.load 4 (Operand.tmp 34), type := 4, pos := "ref.go:185", after := #[{ on := 6, ground := Ground.data }, { on := 5, ground := Ground.guard }], guard := some (5, false) }) (v := undef) rfl (by kernel_rfl) (by kernel_rfl) (by kernel_rfl) (fun _ _ _ h => h) (Or.inr ⟨by kernel_rfl, rfl⟩) hHeld1 ?_
        try simp only [Act.put, List.setIfInBounds_toArray, List.set_cons_zero, List.set_cons_succ]
        refine wpAnyH_take (i := 8) (oi := { dst := some 36, op := Op.move (Operand.tmp 35), type := 4, pos := "ref.go:185", after := #[{ on := 7, ground := Ground.data }, { on := 5, ground := Ground.chain }, { on := 5, ground := Ground.guard }], guard := some (5, false) }) (v := undef) rfl (by kernel_rfl) (by kernel_rfl) (by kernel_rfl) (fun _ _ _ h => h) (Or.inr ⟨by kernel_rfl, rfl⟩) hHeld1 ?_
        try simp only [Act.put, List.setIfInBounds_toArray, List.set_cons_zero, List.set_cons_succ]
        refine wpAnyH_take (i := 9) (oi := { dst := some 37, op := Op.fieldAddr 99 (Operand.tmp 6) 5, type := 0, pos := "ref.go:185", after := #[{ on := 8, ground := Ground.guard }], guard := some (8, true) }) (v := undef) rfl (by kernel_rfl) (by kernel_rfl) (by kernel_rfl) (fun _ _ _ h => h) (Or.inr ⟨by kernel_rfl, rfl⟩) hHeld1 ?_
        try simp only [Act.put, List.setIfInBounds_toArray, List.set_cons_zero, List.set_cons_succ]
        refine wpAnyH_take (i := 10) (oi := { dst := some 38, op := Op.load 33 (Operand.tmp 37), type := 33, pos := "ref.go:185", after := #[{ on := 9, ground := Ground.data }, { on := 8, ground := Ground.guard }], guard := some (8, true) }) (v := undef) rfl (by kernel_rfl) (by kernel_rfl) (by kernel_rfl) (fun _ _ _ h => h) (Or.inr ⟨by kernel_rfl, rfl⟩) hHeld1 ?_
        try simp only [Act.put, List.setIfInBounds_toArray, List.set_cons_zero, List.set_cons_succ]
        refine wpAnyH_take (i := 11) (oi := { dst := some 39, op := Op.call { callee := Callee.builtin Builtin.len, args := #[Operand.tmp 38], argTypes := #[33] }, type := 3, pos := "ref.go:185", after := #[{ on := 10, ground := Ground.data }, { on := 8, ground := Ground.guard }], guard := some (8, true) }) (v := undef) rfl (by kernel_rfl) (by kernel_rfl) (by kernel_rfl) (fun _ _ _ h => h) (Or.inr ⟨by kernel_rfl, rfl⟩) hHeld1 ?_
        try simp only [Act.put, List.setIfInBounds_toArray, List.set_cons_zero, List.set_cons_succ]
        refine wpAnyH_take (i := 12) (oi := { dst := some 40, op := Op.binOp BinOp.eql 3 (Operand.tmp 39) (Operand.const (Value.int IntKind.i64 0)) 3, type := 4, pos := "ref.go:185", after := #[{ on := 11, ground := Ground.data }, { on := 8, ground := Ground.guard }, { on := 15, ground := Ground.gcOnly Departure.lateStores }], guard := some (8, true) }) (v := undef) rfl (by kernel_rfl) (by kernel_rfl) (by kernel_rfl) (fun _ _ _ h => h) (Or.inr ⟨by kernel_rfl, rfl⟩) hHeld1 ?_
        try simp only [Act.put, List.setIfInBounds_toArray, List.set_cons_zero, List.set_cons_succ]
        refine wpAnyH_take (i := 13) (oi := { dst := some 41, op := Op.pick (Operand.tmp 36) (Operand.tmp 40) (Operand.const (Value.bool false)), type := 4, pos := "ref.go:185", after := #[{ on := 8, ground := Ground.data }, { on := 12, ground := Ground.data }, { on := 5, ground := Ground.guard }, { on := 15, ground := Ground.gcOnly Departure.lateStores }], guard := some (5, false) }) (v := undef) rfl (by kernel_rfl) (by kernel_rfl) (by kernel_rfl) (fun _ _ _ h => h) (Or.inr ⟨by kernel_rfl, rfl⟩) hHeld1 ?_
        try simp only [Act.put, List.setIfInBounds_toArray, List.set_cons_zero, List.set_cons_succ]
        refine wpAnyH_take (i := 14) (oi := { dst := some 42, op := Op.pick (Operand.tmp 33) (Operand.const (Value.bool true)) (Operand.tmp 41), type := 4, pos := "ref.go:185", after := #[{ on := 5, ground := Ground.data }, { on := 13, ground := Ground.data }, { on := 15, ground := Ground.gcOnly Departure.lateStores }], guard := none }) (v := .bool true) rfl (by kernel_rfl) (by kernel_rfl) (by kernel_rfl) (fun _ _ _ h => h) (Or.inl ⟨by kernel_rfl, fun W hW => by obtain ⟨s1, s2, s5, s6, s7⟩ := hW; go_simp⟩) hHeld1 ?_
        try simp only [Act.put, List.setIfInBounds_toArray, List.set_cons_zero, List.set_cons_succ]
        refine wpAnyH_take (i := 15) (oi := { dst := some 4, op := Op.assign (Operand.tmp 30), type := 33, pos := "ref.go:185", after := #[{ on := 2, ground := Ground.data }, { on := 8, ground := Ground.chain }, { on := 0, ground := Ground.phase }, { on := 1, ground := Ground.phase }, { on := 2, ground := Ground.phase }, { on := 3, ground := Ground.textOnly Departure.lateStores }, { on := 4, ground := Ground.textOnly Departure.lateStores }, { on := 5, ground := Ground.textOnly Departure.lateStores }, { on := 6, ground := Ground.textOnly Departure.lateStores }, { on := 7, ground := Ground.textOnly Departure.lateStores }, { on := 8, ground := Ground.textOnly Departure.lateStores }, { on := 9, ground := Ground.textOnly Departure.lateStores }, { on := 10, ground := Ground.textOnly Departure.lateStores }, { on := 11, ground := Ground.textOnly Departure.lateStoresUnsure }, { on := 12, ground := Ground.textOnly Departure.lateStores }, { on := 13, ground := Ground.textOnly Departure.lateStores }, { on := 14, ground := Ground.textOnly Departure.lateStores }], guard := none }) (v := .slice v XH cap) rfl (by kernel_rfl) (by kernel_rfl) (by kernel_rfl) (fun _ _ _ h => h) (Or.inl ⟨by kernel_rfl, fun W hW => by obtain ⟨s1, s2, s5, s6, s7⟩ := hW; go_simp⟩) hHeld1 ?_
        try simp only [Act.put, List.setIfInBounds_toArray, List.set_cons_zero, List.set_cons_succ]
        refine wpAnyH_take (i := 16) (oi := { dst := some 5, op := Op.assign (Operand.tmp 42), type := 4, pos := "ref.go:185", after := #[{ on := 14, ground := Ground.data }, { on := 15, ground := Ground.chain }, { on := 0, ground := Ground.phase }, { on := 1, ground := Ground.phase }, { on := 2, ground := Ground.phase }, { on := 3, ground := Ground.phase }, { on := 4, ground := Ground.phase }, { on := 5, ground := Ground.phase }, { on := 6, ground := Ground.phase }, { on := 7, ground := Ground.phase }, { on := 8, ground := Ground.phase }, { on := 9, ground := Ground.phase }, { on := 10, ground := Ground.phase }, { on := 11, ground := Ground.phase }, { on := 12, ground := Ground.phase }, { on := 13, ground := Ground.phase }, { on := 14, ground := Ground.phase }, { on := 15, ground := Ground.phase }], guard := none }) (v := .bool true) rfl (by kernel_rfl) (by kernel_rfl) (by kernel_rfl) (fun _ _ _ h => h) (Or.inl ⟨by kernel_rfl, fun W hW => by obtain ⟨s1, s2, s5, s6, s7⟩ := hW; go_simp⟩) hHeld1 ?_
        try simp only [Act.put, List.setIfInBounds_toArray, List.set_cons_zero, List.set_cons_succ]
        refine wpAnyH_done (by kernel_rfl) ?_ _
        go_wp2_with fail
        go_ret2
        exact ⟨_, by first | rfl | (simp only [Bool.true_or, Bool.false_or, Bool.false_and, Bool.true_and]; done), HV.out, HFJ.out⟩
      · go_enter Try.func44, Try.ntmps44
        go_wp2_with fail
        refine HI.out.mono ?_
        rintro e w1 ⟨rfl, h9⟩
        obtain rfl : W = w1 := h9.symm
        clear h9
        go_upto_region 4 with fail
        have HF9 := hid HF.out
        clear HF
        generalize W.alloc _ = w2 at *
        have HCL : Hid (∀ wj, Fr w2 wj (fun _ => False) → (fun W' => W'.cell? ⟨W.heap.size, 1, none⟩ = some (.bool false) ∧ W'.cell? ⟨W.heap.size, 2, none⟩ = some (.bool false) ∧ W'.cell? ⟨W.heap.size, 5, none⟩ = some (.slice a5 XO k5) ∧ W'.cell? ⟨W.heap.size, 6, none⟩ = some (.slice a6 XH k6) ∧ W.heap.size < W'.heap.size) wj) := fun wj hf => by
          obtain ⟨-, y1, y2, -, -, y5, y6, yl, -⟩ := (HB.out.fr hf (fun h => h)).cells
          exact ⟨y1, y2, y5, y6, yl⟩
        refine wp_region_held_drew (S := (fun W' => W'.cell? ⟨W.heap.size, 1, none⟩ = some (.bool false) ∧ W'.cell? ⟨W.heap.size, 2, none⟩ = some (.bool false) ∧ W'.cell? ⟨W.heap.size, 5, none⟩ = some (.slice a5 XO k5) ∧ W'.cell? ⟨W.heap.size, 6, none⟩ = some (.slice a6 XH k6) ∧ W.heap.size < W'.heap.size)) (by kernel_rfl) (HCL.out _ (Fr.refl _ _).drew) (fun hHeld => ?_)
        refine wpAnyH_take (i := 0) (oi := { dst := some 28, op := Op.fieldAddr 99 (Operand.tmp 6) 6, type := 0, pos := "ref.go:185", after := #[], guard := none }) (v := .pointer (some ⟨W.heap.size, 6, none⟩)) rfl (by kernel_rfl) (by kernel_rfl) (by kernel_rfl) (fun _ _ _ h => h) (Or.inl ⟨by kernel_rfl, fun W hW => by obtain ⟨s1, s2, s5, s6, s7⟩ := hW; go_simp⟩) hHeld ?_
        try simp only [Act.put, List.setIfInBounds_toArray, List.set_cons_zero, List.set_cons_succ]
        refine wpAnyH_take (i := 1) (oi := { dst := some 29, op := Op.load 33 (Operand.tmp 28), type := 33, pos := "ref.go:185", after := #[{ on := 0, ground := Ground.data }], guard := none }) (v := .slice a6 XH k6) rfl (by kernel_rfl) (by kernel_rfl) (by kernel_rfl) (fun _ _ _ h => h) (Or.inl ⟨by kernel_rfl, fun W hW => by obtain ⟨s1, s2, s5, s6, s7⟩ := hW; go_simp⟩) hHeld ?_
        try simp only [Act.put, List.setIfInBounds_toArray, List.set_cons_zero, List.set_cons_succ]
        refine wpAnyH_take (i := 3) (oi := { dst := some 31, op := Op.fieldAddr 99 (Operand.tmp 6) 2, type := 0, pos := "ref.go:185", after := #[], guard := none }) (v := .pointer (some ⟨W.heap.size, 2, none⟩)) rfl (by kernel_rfl) (by kernel_rfl) (by kernel_rfl) (fun _ _ _ h => h) (Or.inl ⟨by kernel_rfl, fun W hW => by obtain ⟨s1, s2, s5, s6, s7⟩ := hW; go_simp⟩) hHeld ?_
        try simp only [Act.put, List.setIfInBounds_toArray, List.set_cons_zero, List.set_cons_succ]
        refine wpAnyH_take (i := 4) (oi := { dst := some 32, op := Op.load 4 (Operand.tmp 31), type := 4, pos := "ref.go:185", after := #[{ on := 3, ground := Ground.data }], guard := none }) (v := .bool false) rfl (by kernel_rfl) (by kernel_rfl) (by kernel_rfl) (fun _ _ _ h => h) (Or.inl ⟨by kernel_rfl, fun W hW => by obtain ⟨s1, s2, s5, s6, s7⟩ := hW; go_simp⟩) hHeld ?_
        try simp only [Act.put, List.setIfInBounds_toArray, List.set_cons_zero, List.set_cons_succ]
        refine wpAnyH_ready (rs := [2]) (by kernel_rfl) (by simp) ?_
        refine AllReadyH.cons (o := { dst := some 30, op := Op.call { callee := Callee.value (Operand.func 66), args := #[Operand.tmp 29, Operand.const (Value.slice none 0 0)], argTypes := #[33, 33] }, type := 33, pos := "ref.go:185", after := #[{ on := 1, ground := Ground.data }], guard := none }) rfl (fun K hK => ?_) AllReadyH.nil
        go_simp
        refine (HJ.out _ HF9.out.drew).mono ?_
        rintro e wj ⟨v, cap, rfl, hv, hf4⟩
        have HV := hid hv
        have HFJ := hid (HF9.out.drew.trans hf4)
        have HSJ := hid (HCL.out wj ((Fr.refl w2 (fun _ => False)).drew.trans hf4))
        clear hv hf4
        go_wp2_with fail
        refine hK.out _ _ HSJ.out (fun hHeld1 => ?_)
        clear hK K
        try simp only [Act.put, List.setIfInBounds_toArray, List.set_cons_zero, List.set_cons_succ]
        refine wpAnyH_take (i := 5) (oi := { dst := some 33, op := Op.move (Operand.tmp 32), type := 4, pos := "ref.go:185", after := #[{ on := 4, ground := Ground.data }, { on := 2, ground := Ground.chain }], guard := none }) (v := .bool false) rfl (by kernel_rfl) (by kernel_rfl) (by kernel_rfl) (fun _ _ _ h => h) (Or.inl ⟨by kernel_rfl, fun W hW => by obtain ⟨s1, s2, s5, s6, s7⟩ := hW; go_simp⟩) hHeld1 ?_
        try simp only [Act.put, List.setIfInBounds_toArray, List.set_cons_zero, List.set_cons_succ]
        refine wpAnyH_take (i := 6) (oi := { dst := some 34, op := Op.fieldAddr 99 (Operand.tmp 6) 1, type := 0, pos := "ref.go:185", after := #[{ on := 5, ground := Ground.guard }], guard := some (5, false) }) (v := .pointer (some ⟨W.heap.size, 1, none⟩)) rfl (by kernel_rfl) (by kernel_rfl) (by kernel_rfl) (fun _ _ _ h => h) (Or.inl ⟨by kernel_rfl, fun W hW => by obtain ⟨s1, s2, s5, s6, s7⟩ := hW; go_simp⟩) hHeld1 ?_
        try simp only [Act.put, List.setIfInBounds_toArray, List.set_cons_zero, List.set_cons_succ]
        refine wpAnyH_take (i := 7) (oi := { dst := some 35, op := Op.load 4 (Operand.tmp 34), type := 4, pos := "ref.go:185", after := #[{ on := 6, ground := Ground.data }, { on := 5, ground := Ground.guard }], guard := some (5, false) }) (v := .bool false) rfl (by kernel_rfl) (by kernel_rfl) (by kernel_rfl) (fun _ _ _ h => h) (Or.inl ⟨by kernel_rfl, fun W hW => by obtain ⟨s1, s2, s5, s6, s7⟩ := hW; go_simp⟩) hHeld1 ?_
        try simp only [Act.put, List.setIfInBounds_toArray, List.set_cons_zero, List.set_cons_succ]
        refine wpAnyH_take (i := 8) (oi := { dst := some 36, op := Op.move (Operand.tmp 35), type := 4, pos := "ref.go:185", after := #[{ on := 7, ground := Ground.data }, { on := 5, ground := Ground.chain }, { on := 5, ground := Ground.guard }], guard := some (5, false) }) (v := .bool false) rfl (by kernel_rfl) (by kernel_rfl) (by kernel_rfl) (fun _ _ _ h => h) (Or.inl ⟨by kernel_rfl, fun W hW => by obtain ⟨s1, s2, s5, s6, s7⟩ := hW; go_simp⟩) hHeld1 ?_
        try simp only [Act.put, List.setIfInBounds_toArray, List.set_cons_zero, List.set_cons_succ]
        refine wpAnyH_take (i := 9) (oi := { dst := some 37, op := Op.fieldAddr 99 (Operand.tmp 6) 5, type := 0, pos := "ref.go:185", after := #[{ on := 8, ground := Ground.guard }], guard := some (8, true) }) (v := undef) rfl (by kernel_rfl) (by kernel_rfl) (by kernel_rfl) (fun _ _ _ h => h) (Or.inr ⟨by kernel_rfl, rfl⟩) hHeld1 ?_
        try simp only [Act.put, List.setIfInBounds_toArray, List.set_cons_zero, List.set_cons_succ]
        refine wpAnyH_take (i := 10) (oi := { dst := some 38, op := Op.load 33 (Operand.tmp 37), type := 33, pos := "ref.go:185", after := #[{ on := 9, ground := Ground.data }, { on := 8, ground := Ground.guard }], guard := some (8, true) }) (v := undef) rfl (by kernel_rfl) (by kernel_rfl) (by kernel_rfl) (fun _ _ _ h => h) (Or.inr ⟨by kernel_rfl, rfl⟩) hHeld1 ?_
        try simp only [Act.put, List.setIfInBounds_toArray, List.set_cons_zero, List.set_cons_succ]
        refine wpAnyH_take (i := 11) (oi := { dst := some 39, op := Op.call { callee := Callee.builtin Builtin.len, args := #[Operand.tmp 38], argTypes := #[33] }, type := 3, pos := "ref.go:185", after := #[{ on := 10, ground := Ground.data }, { on := 8, ground := Ground.guard }], guard := some (8, true) }) (v := undef) rfl (by kernel_rfl) (by kernel_rfl) (by kernel_rfl) (fun _ _ _ h => h) (Or.inr ⟨by kernel_rfl, rfl⟩) hHeld1 ?_
        try simp only [Act.put, List.setIfInBounds_toArray, List.set_cons_zero, List.set_cons_succ]
        refine wpAnyH_take (i := 12) (oi := { dst := some 40, op := Op.binOp BinOp.eql 3 (Operand.tmp 39) (Operand.const (Value.int IntKind.i64 0)) 3, type := 4, pos := "ref.go:185", after := #[{ on := 11, ground := Ground.data }, { on := 8, ground := Ground.guard }, { on := 15, ground := Ground.gcOnly Departure.lateStores }], guard := some (8, true) }) (v := undef) rfl (by kernel_rfl) (by kernel_rfl) (by kernel_rfl) (fun _ _ _ h => h) (Or.inr ⟨by kernel_rfl, rfl⟩) hHeld1 ?_
        try simp only [Act.put, List.setIfInBounds_toArray, List.set_cons_zero, List.set_cons_succ]
        refine wpAnyH_take (i := 13) (oi := { dst := some 41, op := Op.pick (Operand.tmp 36) (Operand.tmp 40) (Operand.const (Value.bool false)), type := 4, pos := "ref.go:185", after := #[{ on := 8, ground := Ground.data }, { on := 12, ground := Ground.data }, { on := 5, ground := Ground.guard }, { on := 15, ground := Ground.gcOnly Departure.lateStores }], guard := some (5, false) }) (v := .bool false) rfl (by kernel_rfl) (by kernel_rfl) (by kernel_rfl) (fun _ _ _ h => h) (Or.inl ⟨by kernel_rfl, fun W hW => by obtain ⟨s1, s2, s5, s6, s7⟩ := hW; go_simp⟩) hHeld1 ?_
        try simp only [Act.put, List.setIfInBounds_toArray, List.set_cons_zero, List.set_cons_succ]
        refine wpAnyH_take (i := 14) (oi := { dst := some 42, op := Op.pick (Operand.tmp 33) (Operand.const (Value.bool true)) (Operand.tmp 41), type := 4, pos := "ref.go:185", after := #[{ on := 5, ground := Ground.data }, { on := 13, ground := Ground.data }, { on := 15, ground := Ground.gcOnly Departure.lateStores }], guard := none }) (v := .bool false) rfl (by kernel_rfl) (by kernel_rfl) (by kernel_rfl) (fun _ _ _ h => h) (Or.inl ⟨by kernel_rfl, fun W hW => by obtain ⟨s1, s2, s5, s6, s7⟩ := hW; go_simp⟩) hHeld1 ?_
        try simp only [Act.put, List.setIfInBounds_toArray, List.set_cons_zero, List.set_cons_succ]
        refine wpAnyH_take (i := 15) (oi := { dst := some 4, op := Op.assign (Operand.tmp 30), type := 33, pos := "ref.go:185", after := #[{ on := 2, ground := Ground.data }, { on := 8, ground := Ground.chain }, { on := 0, ground := Ground.phase }, { on := 1, ground := Ground.phase }, { on := 2, ground := Ground.phase }, { on := 3, ground := Ground.textOnly Departure.lateStores }, { on := 4, ground := Ground.textOnly Departure.lateStores }, { on := 5, ground := Ground.textOnly Departure.lateStores }, { on := 6, ground := Ground.textOnly Departure.lateStores }, { on := 7, ground := Ground.textOnly Departure.lateStores }, { on := 8, ground := Ground.textOnly Departure.lateStores }, { on := 9, ground := Ground.textOnly Departure.lateStores }, { on := 10, ground := Ground.textOnly Departure.lateStores }, { on := 11, ground := Ground.textOnly Departure.lateStoresUnsure }, { on := 12, ground := Ground.textOnly Departure.lateStores }, { on := 13, ground := Ground.textOnly Departure.lateStores }, { on := 14, ground := Ground.textOnly Departure.lateStores }], guard := none }) (v := .slice v XH cap) rfl (by kernel_rfl) (by kernel_rfl) (by kernel_rfl) (fun _ _ _ h => h) (Or.inl ⟨by kernel_rfl, fun W hW => by obtain ⟨s1, s2, s5, s6, s7⟩ := hW; go_simp⟩) hHeld1 ?_
        try simp only [Act.put, List.setIfInBounds_toArray, List.set_cons_zero, List.set_cons_succ]
        refine wpAnyH_take (i := 16) (oi := { dst := some 5, op := Op.assign (Operand.tmp 42), type := 4, pos := "ref.go:185", after := #[{ on := 14, ground := Ground.data }, { on := 15, ground := Ground.chain }, { on := 0, ground := Ground.phase }, { on := 1, ground := Ground.phase }, { on := 2, ground := Ground.phase }, { on := 3, ground := Ground.phase }, { on := 4, ground := Ground.phase }, { on := 5, ground := Ground.phase }, { on := 6, ground := Ground.phase }, { on := 7, ground := Ground.phase }, { on := 8, ground := Ground.phase }, { on := 9, ground := Ground.phase }, { on := 10, ground := Ground.phase }, { on := 11, ground := Ground.phase }, { on := 12, ground := Ground.phase }, { on := 13, ground := Ground.phase }, { on := 14, ground := Ground.phase }, { on := 15, ground := Ground.phase }], guard := none }) (v := .bool false) rfl (by kernel_rfl) (by kernel_rfl) (by kernel_rfl) (fun _ _ _ h => h) (Or.inl ⟨by kernel_rfl, fun W hW => by obtain ⟨s1, s2, s5, s6, s7⟩ := hW; go_simp⟩) hHeld1 ?_
        try simp only [Act.put, List.setIfInBounds_toArray, List.set_cons_zero, List.set_cons_succ]
        refine wpAnyH_done (by kernel_rfl) ?_ _
        go_wp2_with fail
        go_ret2
        exact ⟨_, by first | rfl | (simp only [Bool.true_or, Bool.false_or, Bool.false_and, Bool.true_and]; done), HV.out, HFJ.out⟩
      · go_enter Try.func44, Try.ntmps44
        go_wp2_with fail
        refine HI.out.mono ?_
        rintro e w1 ⟨rfl, h9⟩
        obtain rfl : W = w1 := h9.symm
        clear h9
        go_upto_region 4 with fail
        have HF9 := hid HF.out
        clear HF
        generalize W.alloc _ = w2 at *
        have HCL : Hid (∀ wj, Fr w2 wj (fun _ => False) → (fun W' => W'.cell? ⟨W.heap.size, 1, none⟩ = some (.bool true) ∧ W'.cell? ⟨W.heap.size, 2, none⟩ = some (.bool false) ∧ W'.cell? ⟨W.heap.size, 5, none⟩ = some (.slice a5 XO k5) ∧ W'.cell? ⟨W.heap.size, 6, none⟩ = some (.slice a6 XH k6) ∧ W.heap.size < W'.heap.size) wj) := fun wj hf => by
          obtain ⟨-, y1, y2, -, -, y5, y6, yl, -⟩ := (HB.out.fr hf (fun h => h)).cells
          exact ⟨y1, y2, y5, y6, yl⟩
        refine wp_region_held_drew (S := (fun W' => W'.cell? ⟨W.heap.size, 1, none⟩ = some (.bool true) ∧ W'.cell? ⟨W.heap.size, 2, none⟩ = some (.bool false) ∧ W'.cell? ⟨W.heap.size, 5, none⟩ = some (.slice a5 XO k5) ∧ W'.cell? ⟨W.heap.size, 6, none⟩ = some (.slice a6 XH k6) ∧ W.heap.size < W'.heap.size)) (by kernel_rfl) (HCL.out _ (Fr.refl _ _).drew) (fun hHeld => ?_)
        refine wpAnyH_take (i := 0) (oi := { dst := some 28, op := Op.fieldAddr 99 (Operand.tmp 6) 6, type := 0, pos := "ref.go:185", after := #[], guard := none }) (v := .pointer (some ⟨W.heap.size, 6, none⟩)) rfl (by kernel_rfl) (by kernel_rfl) (by kernel_rfl) (fun _ _ _ h => h) (Or.inl ⟨by kernel_rfl, fun W hW => by obtain ⟨s1, s2, s5, s6, s7⟩ := hW; go_simp⟩) hHeld ?_
        try simp only [Act.put, List.setIfInBounds_toArray, List.set_cons_zero, List.set_cons_succ]
        refine wpAnyH_take (i := 1) (oi := { dst := some 29, op := Op.load 33 (Operand.tmp 28), type := 33, pos := "ref.go:185", after := #[{ on := 0, ground := Ground.data }], guard := none }) (v := .slice a6 XH k6) rfl (by kernel_rfl) (by kernel_rfl) (by kernel_rfl) (fun _ _ _ h => h) (Or.inl ⟨by kernel_rfl, fun W hW => by obtain ⟨s1, s2, s5, s6, s7⟩ := hW; go_simp⟩) hHeld ?_
        try simp only [Act.put, List.setIfInBounds_toArray, List.set_cons_zero, List.set_cons_succ]
        refine wpAnyH_take (i := 3) (oi := { dst := some 31, op := Op.fieldAddr 99 (Operand.tmp 6) 2, type := 0, pos := "ref.go:185", after := #[], guard := none }) (v := .pointer (some ⟨W.heap.size, 2, none⟩)) rfl (by kernel_rfl) (by kernel_rfl) (by kernel_rfl) (fun _ _ _ h => h) (Or.inl ⟨by kernel_rfl, fun W hW => by obtain ⟨s1, s2, s5, s6, s7⟩ := hW; go_simp⟩) hHeld ?_
        try simp only [Act.put, List.setIfInBounds_toArray, List.set_cons_zero, List.set_cons_succ]
        refine wpAnyH_take (i := 4) (oi := { dst := some 32, op := Op.load 4 (Operand.tmp 31), type := 4, pos := "ref.go:185", after := #[{ on := 3, ground := Ground.data }], guard := none }) (v := .bool false) rfl (by kernel_rfl) (by kernel_rfl) (by kernel_rfl) (fun _ _ _ h => h) (Or.inl ⟨by kernel_rfl, fun W hW => by obtain ⟨s1, s2, s5, s6, s7⟩ := hW; go_simp⟩) hHeld ?_
        try simp only [Act.put, List.setIfInBounds_toArray, List.set_cons_zero, List.set_cons_succ]
        refine wpAnyH_ready (rs := [2]) (by kernel_rfl) (by simp) ?_
        refine AllReadyH.cons (o := { dst := some 30, op := Op.call { callee := Callee.value (Operand.func 66), args := #[Operand.tmp 29, Operand.const (Value.slice none 0 0)], argTypes := #[33, 33] }, type := 33, pos := "ref.go:185", after := #[{ on := 1, ground := Ground.data }], guard := none }) rfl (fun K hK => ?_) AllReadyH.nil
        go_simp
        refine (HJ.out _ HF9.out.drew).mono ?_
        rintro e wj ⟨v, cap, rfl, hv, hf4⟩
        have HV := hid hv
        have HFJ := hid (HF9.out.drew.trans hf4)
        have HSJ := hid (HCL.out wj ((Fr.refl w2 (fun _ => False)).drew.trans hf4))
        clear hv hf4
        go_wp2_with fail
        refine hK.out _ _ HSJ.out (fun hHeld1 => ?_)
        clear hK K
        try simp only [Act.put, List.setIfInBounds_toArray, List.set_cons_zero, List.set_cons_succ]
        refine wpAnyH_take (i := 5) (oi := { dst := some 33, op := Op.move (Operand.tmp 32), type := 4, pos := "ref.go:185", after := #[{ on := 4, ground := Ground.data }, { on := 2, ground := Ground.chain }], guard := none }) (v := .bool false) rfl (by kernel_rfl) (by kernel_rfl) (by kernel_rfl) (fun _ _ _ h => h) (Or.inl ⟨by kernel_rfl, fun W hW => by obtain ⟨s1, s2, s5, s6, s7⟩ := hW; go_simp⟩) hHeld1 ?_
        try simp only [Act.put, List.setIfInBounds_toArray, List.set_cons_zero, List.set_cons_succ]
        refine wpAnyH_take (i := 6) (oi := { dst := some 34, op := Op.fieldAddr 99 (Operand.tmp 6) 1, type := 0, pos := "ref.go:185", after := #[{ on := 5, ground := Ground.guard }], guard := some (5, false) }) (v := .pointer (some ⟨W.heap.size, 1, none⟩)) rfl (by kernel_rfl) (by kernel_rfl) (by kernel_rfl) (fun _ _ _ h => h) (Or.inl ⟨by kernel_rfl, fun W hW => by obtain ⟨s1, s2, s5, s6, s7⟩ := hW; go_simp⟩) hHeld1 ?_
        try simp only [Act.put, List.setIfInBounds_toArray, List.set_cons_zero, List.set_cons_succ]
        refine wpAnyH_take (i := 7) (oi := { dst := some 35, op := Op.load 4 (Operand.tmp 34), type := 4, pos := "ref.go:185", after := #[{ on := 6, ground := Ground.data }, { on := 5, ground := Ground.guard }], guard := some (5, false) }) (v := .bool true) rfl (by kernel_rfl) (by kernel_rfl) (by kernel_rfl) (fun _ _ _ h => h) (Or.inl ⟨by kernel_rfl, fun W hW => by obtain ⟨s1, s2, s5, s6, s7⟩ := hW; go_simp⟩) hHeld1 ?_
        try simp only [Act.put, List.setIfInBounds_toArray, List.set_cons_zero, List.set_cons_succ]
        refine wpAnyH_take (i := 8) (oi := { dst := some 36, op := Op.move (Operand.tmp 35), type := 4, pos := "ref.go:185", after := #[{ on := 7, ground := Ground.data }, { on := 5, ground := Ground.chain }, { on := 5, ground := Ground.guard }], guard := some (5, false) }) (v := .bool true) rfl (by kernel_rfl) (by kernel_rfl) (by kernel_rfl) (fun _ _ _ h => h) (Or.inl ⟨by kernel_rfl, fun W hW => by obtain ⟨s1, s2, s5, s6, s7⟩ := hW; go_simp⟩) hHeld1 ?_
        try simp only [Act.put, List.setIfInBounds_toArray, List.set_cons_zero, List.set_cons_succ]
        refine wpAnyH_take (i := 9) (oi := { dst := some 37, op := Op.fieldAddr 99 (Operand.tmp 6) 5, type := 0, pos := "ref.go:185", after := #[{ on := 8, ground := Ground.guard }], guard := some (8, true) }) (v := .pointer (some ⟨W.heap.size, 5, none⟩)) rfl (by kernel_rfl) (by kernel_rfl) (by kernel_rfl) (fun _ _ _ h => h) (Or.inl ⟨by kernel_rfl, fun W hW => by obtain ⟨s1, s2, s5, s6, s7⟩ := hW; go_simp⟩) hHeld1 ?_
        try simp only [Act.put, List.setIfInBounds_toArray, List.set_cons_zero, List.set_cons_succ]
        refine wpAnyH_take (i := 10) (oi := { dst := some 38, op := Op.load 33 (Operand.tmp 37), type := 33, pos := "ref.go:185", after := #[{ on := 9, ground := Ground.data }, { on := 8, ground := Ground.guard }], guard := some (8, true) }) (v := .slice a5 XO k5) rfl (by kernel_rfl) (by kernel_rfl) (by kernel_rfl) (fun _ _ _ h => h) (Or.inl ⟨by kernel_rfl, fun W hW => by obtain ⟨s1, s2, s5, s6, s7⟩ := hW; go_simp⟩) hHeld1 ?_
        try simp only [Act.put, List.setIfInBounds_toArray, List.set_cons_zero, List.set_cons_succ]
        refine wpAnyH_take (i := 11) (oi := { dst := some 39, op := Op.call { callee := Callee.builtin Builtin.len, args := #[Operand.tmp 38], argTypes := #[33] }, type := 3, pos := "ref.go:185", after := #[{ on := 10, ground := Ground.data }, { on := 8, ground := Ground.guard }], guard := some (8, true) }) (v := .int .i64 (XO : Int)) rfl (by kernel_rfl) (by kernel_rfl) (by kernel_rfl) (fun _ _ _ h => h) (Or.inl ⟨by kernel_rfl, fun W hW => by obtain ⟨s1, s2, s5, s6, s7⟩ := hW; go_simp⟩) hHeld1 ?_
        try simp only [Act.put, List.setIfInBounds_toArray, List.set_cons_zero, List.set_cons_succ]
        refine wpAnyH_take (i := 12) (oi := { dst := some 40, op := Op.binOp BinOp.eql 3 (Operand.tmp 39) (Operand.const (Value.int IntKind.i64 0)) 3, type := 4, pos := "ref.go:185", after := #[{ on := 11, ground := Ground.data }, { on := 8, ground := Ground.guard }, { on := 15, ground := Ground.gcOnly Departure.lateStores }], guard := some (8, true) }) (v := .bool B) rfl (by kernel_rfl) (by kernel_rfl) (by kernel_rfl) (fun _ _ _ h => h) (Or.inl ⟨by kernel_rfl, fun W hW => by obtain ⟨s1, s2, s5, s6, s7⟩ := hW; go_simp⟩) hHeld1 ?_
        try simp only [Act.put, List.setIfInBounds_toArray, List.set_cons_zero, List.set_cons_succ]
        refine wpAnyH_take (i := 13) (oi := { dst := some 41, op := Op.pick (Operand.tmp 36) (Operand.tmp 40) (Operand.const (Value.bool false)), type := 4, pos := "ref.go:185", after := #[{ on := 8, ground := Ground.data }, { on := 12, ground := Ground.data }, { on := 5, ground := Ground.guard }, { on := 15, ground := Ground.gcOnly Departure.lateStores }], guard := some (5, false) }) (v := .bool B) rfl (by kernel_rfl) (by kernel_rfl) (by kernel_rfl) (fun _ _ _ h => h) (Or.inl ⟨by kernel_rfl, fun W hW => by obtain ⟨s1, s2, s5, s6, s7⟩ := hW; go_simp⟩) hHeld1 ?_
        try simp only [Act.put, List.setIfInBounds_toArray, List.set_cons_zero, List.set_cons_succ]
        refine wpAnyH_take (i := 14) (oi := { dst := some 42, op := Op.pick (Operand.tmp 33) (Operand.const (Value.bool true)) (Operand.tmp 41), type := 4, pos := "ref.go:185", after := #[{ on := 5, ground := Ground.data }, { on := 13, ground := Ground.data }, { on := 15, ground := Ground.gcOnly Departure.lateStores }], guard := none }) (v := .bool B) rfl (by kernel_rfl) (by kernel_rfl) (by kernel_rfl) (fun _ _ _ h => h) (Or.inl ⟨by kernel_rfl, fun W hW => by obtain ⟨s1, s2, s5, s6, s7⟩ := hW; go_simp⟩) hHeld1 ?_
        try simp only [Act.put, List.setIfInBounds_toArray, List.set_cons_zero, List.set_cons_succ]
        refine wpAnyH_take (i := 15) (oi := { dst := some 4, op := Op.assign (Operand.tmp 30), type := 33, pos := "ref.go:185", after := #[{ on := 2, ground := Ground.data }, { on := 8, ground := Ground.chain }, { on := 0, ground := Ground.phase }, { on := 1, ground := Ground.phase }, { on := 2, ground := Ground.phase }, { on := 3, ground := Ground.textOnly Departure.lateStores }, { on := 4, ground := Ground.textOnly Departure.lateStores }, { on := 5, ground := Ground.textOnly Departure.lateStores }, { on := 6, ground := Ground.textOnly Departure.lateStores }, { on := 7, ground := Ground.textOnly Departure.lateStores }, { on := 8, ground := Ground.textOnly Departure.lateStores }, { on := 9, ground := Ground.textOnly Departure.lateStores }, { on := 10, ground := Ground.textOnly Departure.lateStores }, { on := 11, ground := Ground.textOnly Departure.lateStoresUnsure }, { on := 12, ground := Ground.textOnly Departure.lateStores }, { on := 13, ground := Ground.textOnly Departure.lateStores }, { on := 14, ground := Ground.textOnly Departure.lateStores }], guard := none }) (v := .slice v XH cap) rfl (by kernel_rfl) (by kernel_rfl) (by kernel_rfl) (fun _ _ _ h => h) (Or.inl ⟨by kernel_rfl, fun W hW => by obtain ⟨s1, s2, s5, s6, s7⟩ := hW; go_simp⟩) hHeld1 ?_
        try simp only [Act.put, List.setIfInBounds_toArray, List.set_cons_zero, List.set_cons_succ]
        refine wpAnyH_take (i := 16) (oi := { dst := some 5, op := Op.assign (Operand.tmp 42), type := 4, pos := "ref.go:185", after := #[{ on := 14, ground := Ground.data }, { on := 15, ground := Ground.chain }, { on := 0, ground := Ground.phase }, { on := 1, ground := Ground.phase }, { on := 2, ground := Ground.phase }, { on := 3, ground := Ground.phase }, { on := 4, ground := Ground.phase }, { on := 5, ground := Ground.phase }, { on := 6, ground := Ground.phase }, { on := 7, ground := Ground.phase }, { on := 8, ground := Ground.phase }, { on := 9, ground := Ground.phase }, { on := 10, ground := Ground.phase }, { on := 11, ground := Ground.phase }, { on := 12, ground := Ground.phase }, { on := 13, ground := Ground.phase }, { on := 14, ground := Ground.phase }, { on := 15, ground := Ground.phase }], guard := none }) (v := .bool B) rfl (by kernel_rfl) (by kernel_rfl) (by kernel_rfl) (fun _ _ _ h => h) (Or.inl ⟨by kernel_rfl, fun W hW => by obtain ⟨s1, s2, s5, s6, s7⟩ := hW; go_simp⟩) hHeld1 ?_
        try simp only [Act.put, List.setIfInBounds_toArray, List.set_cons_zero, List.set_cons_succ]
        refine wpAnyH_done (by kernel_rfl) ?_ _
        go_wp2_with fail
        go_ret2
        exact ⟨_, by first | rfl | (simp only [Bool.true_or, Bool.false_or, Bool.false_and, Bool.true_and]; done), HV.out, HFJ.out⟩
end Go.Proofs.Ytljkbnjdciljfaa
