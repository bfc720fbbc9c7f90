/- flow: check, Put: walks. -/
import Derived.Test.YtlgbciibhmcokaaXOps1
namespace Go.Proofs.Ytlgbciibhmcokaa
open Go.RowKit

theorem size_zero {k : ByteArray} (h : k.size = 0) : k = ⟨#[]⟩ := by
  obtain ⟨a⟩ := k
  have h' : a.size = 0 := h
  rw [Array.eq_empty_of_size_eq_zero h']
theorem key_nz {k : ByteArray} (h : k.size ≠ 0) : (k.toList == (⟨#[]⟩ : ByteArray).toList) = false := by
  rw [beq_eq_false_iff_ne]
  intro e
  rw [ByteArray.toList_eq, ByteArray.toList_eq] at e
  apply h
  have : k = ⟨#[]⟩ := ByteArray.ext (Array.toList_inj.1 e)
  rw [this]; rfl
set_option maxHeartbeats 2000000 in
theorem check_any (x : It) (w : World) : Calls Try.prog 35 #[vI x] w fun e w' => e = .returned (.int .i64 (errC x)) ∧ Fr w w' (fun _ => False) := by
  obtain ⟨m, k, t, v⟩ := x
  have hfr := from1_any (k.size : Int) 32 
  have hkd : decide (1 ≤ (k.size : Int) ∧ (k.size : Int) ≤ 32) = keyB k := by
    unfold keyB
    apply decide_eq_decide.2
    omega
  rw [hkd] at hfr
  unfold vI
  simp only
  have HFR := hid hfr
  clear hfr hkd
  by_cases h1 : m = false ∧ keyB k = false
  · have e : errC ⟨m, k, t, v⟩ = 21 := by unfold errC; rw [if_pos h1]
    rw [e]
    obtain ⟨rfl, hk⟩ := h1
    rw [hk] at HFR
    clear e
    go_enter Try.func35, Try.ntmps35
    go_wp2_with fail
    refine (HFR.out _).mono ?_
    rintro e w1 ⟨rfl, rfl⟩
    go_wp2_with fail
    try rw [Exit.noGoto_ret]
    go_ret
    exact ⟨rfl, (Fr.refl _ _).alloc _⟩
  · have h1' : m = true ∨ (m = false ∧ keyB k = true) := by cases m <;> cases hq : keyB k <;> simp_all
    by_cases h2 : -1152921504606846976 ≤ t ∧ t ≤ 1152921504606846976
    · have u1 : ¬ t < -1152921504606846976 := by omega
      have u2 : ¬ 1152921504606846976 < t := by omega
      have u3 : ¬ t > 1152921504606846976 := by omega
      rcases h1' with rfl | ⟨rfl, hk⟩
      · by_cases h3 : k.size ≠ 0 ∨ v ≠ 0
        · have e : errC ⟨true, k, t, v⟩ = 16 := by unfold errC; rw [if_neg h1, if_neg (fun h => h h2), if_pos ⟨rfl, h3⟩]
          rw [e]
          clear e h1 h2 HFR
          by_cases h4 : k.size = 0
          · have h5 : v ≠ 0 := by omega
            obtain rfl := size_zero h4
            have q2 : (v != 0) = true := by simpa using h5
            go_enter Try.func35, Try.ntmps35
            go_wp2_with fail
            try rw [Exit.noGoto_ret]
            go_ret
            exact ⟨rfl, (Fr.refl _ _).alloc _⟩
          · have q1 : k.toList.isEmpty = false := by
              have h7 := key_nz h4
              rw [beq_eq_false_iff_ne] at h7
              cases hq : k.toList with
              | nil => exact absurd (by rw [hq, ByteArray.toList_eq]) h7
              | cons a l => rfl
            have q2 : ¬ k.toList = [] := by intro e; rw [e] at q1; cases q1
            go_enter Try.func35, Try.ntmps35
            go_wp2_with fail
            try rw [Exit.noGoto_ret]
            go_ret
            exact ⟨rfl, (Fr.refl _ _).alloc _⟩
        · have e : errC ⟨true, k, t, v⟩ = 0 := by unfold errC; rw [if_neg h1, if_neg (fun h => h h2), if_neg (fun h => h3 h.2)]
          rw [e]
          have h4 : k.size = 0 := by omega
          have h5 : v = 0 := by omega
          obtain rfl := size_zero h4
          subst h5
          clear e h1 h2 h3 h4 HFR
          go_enter Try.func35, Try.ntmps35
          go_wp2_with fail
          try rw [Exit.noGoto_ret]
          go_ret
          exact ⟨rfl, (Fr.refl _ _).alloc _⟩
      · have e : errC ⟨false, k, t, v⟩ = 0 := by unfold errC; rw [if_neg h1, if_neg (fun h => h h2), if_neg (fun h => by cases h.1)]
        rw [e]
        rw [hk] at HFR
        clear e h1 h2
        go_enter Try.func35, Try.ntmps35
        go_wp2_with fail
        refine (HFR.out _).mono ?_
        rintro e w1 ⟨rfl, rfl⟩
        go_wp2_with fail
        try rw [Exit.noGoto_ret]
        go_ret
        exact ⟨rfl, (Fr.refl _ _).alloc _⟩
    · have e : errC ⟨m, k, t, v⟩ = 22 := by unfold errC; rw [if_neg h1, if_pos h2]
      rw [e]
      have hc : t < -1152921504606846976 ∨ (¬ t < -1152921504606846976 ∧ 1152921504606846976 < t) := by omega
      clear e h1 h2
      rcases h1' with rfl | ⟨rfl, hk⟩
      · rcases hc with u1 | ⟨u1, u2⟩
        all_goals
          go_enter Try.func35, Try.ntmps35
          go_wp2_with fail
          try rw [Exit.noGoto_ret]
          go_ret
          exact ⟨rfl, (Fr.refl _ _).alloc _⟩
      · rw [hk] at HFR
        rcases hc with u1 | ⟨u1, u2⟩
        all_goals
          go_enter Try.func35, Try.ntmps35
          go_wp2_with fail
          refine (HFR.out _).mono ?_
          rintro e w1 ⟨rfl, rfl⟩
          go_wp2_with fail
          try rw [Exit.noGoto_ret]
          go_ret
          exact ⟨rfl, (Fr.refl _ _).alloc _⟩
/-- What Put answers, and leaves. -/
def putE (s : Ps) (i : Int) (x : It) : Int := if ¬ (0 ≤ i ∧ i < (s.q.length : Int)) then 1 else if errC x ≠ 0 then errC x else if 65536 ≤ (s.q.getD i.toNat []).length then 2 else 0
def putS (s : Ps) (i : Int) (x : It) : Ps := if putE s i x = 0 then ⟨s.q.set i.toNat (s.q.getD i.toNat [] ++ [x]), s.n, s.b⟩ else s
/-- What a call leaves of a flow. -/
def Aft (w w' : World) (g : Fx) (box : Nat) (s : Ps) : Prop := ∃ g', g'.B = g.B ∧ Fw w' g' box ∧ g'.ps = s ∧ Gr w g.ow g'.ow ∧ Fr w w' g.ow
theorem Aft.same {w w' : World} {g : Fx} {box : Nat} (h : Fw w g box) (hf : Fr w w' (fun _ => False)) : Aft w w' g box g.ps := ⟨g, rfl, h.still hf, rfl, Gr.refl _ _, hf.mono (fun _ _ h => h.elim)⟩
theorem Aft.pre {w w1 w' : World} {g : Fx} {box : Nat} {s : Ps} (hf : Fr w w1 (fun _ => False)) (h : Aft w1 w' g box s) : Aft w w' g box s := by
  obtain ⟨g', h1, h2, h3, h4, h5⟩ := h
  have hs := hf.size
  refine ⟨g', h1, h2, h3, fun k hk => (h4 k hk).imp id (fun h => by omega), (hf.mono (fun _ _ h => h.elim)).trans h5⟩
theorem Aft.post {w w1 w' : World} {g : Fx} {box : Nat} {s : Ps} (h : Aft w w1 g box s) (hf : Fr w1 w' (fun _ => False)) : Aft w w' g box s := by
  obtain ⟨g', h1, h2, h3, h4, h5⟩ := h
  exact ⟨g', h1, h2.still hf, h3, h4, h5.trans (hf.mono (fun _ _ h => h.elim))⟩
theorem map_set' {α β : Type} (f : α → β) (L : List α) (i : Nat) (y : α) : (L.set i y).map f = (L.map f).set i (f y) := by rw [List.map_set]
theorem setF_ps (g : Fx) (i : Nat) (y : Fd) : (g.setF i y).ps = ⟨g.ps.q.set i y.q, g.ps.n.set i y.n, g.ps.b⟩ := by
  simp [Fx.ps, Fx.setF, List.map_set]
theorem setX_ps (g : Fx) (i : Nat) (y : Bx) : (g.setX i y).ps = ⟨g.ps.q, g.ps.n, g.ps.b.set i y.ms⟩ := by
  simp [Fx.ps, Fx.setX, List.map_set]
theorem set_getD_self {α : Type} (L : List α) (i : Nat) (z : α) : L.set i (L.getD i z) = L := by
  apply List.ext_getElem?
  intro j
  rw [List.getElem?_set]
  split
  · rename_i e
    subst e
    split
    · rename_i h; simp [List.getD, h]
    · rename_i h; rw [List.getElem?_eq_none (by omega)]
  · rfl
/-- add into a feed's queue. -/
theorem add_feed {w : World} {g : Fx} {box : Nat} (h : Fw w g box) {i : Nat} (hi : i < g.fs.length) (x : It) (hx : errC x = 0) (hl : (g.fs.getD i fd0).q.length < 65536) : Calls Try.prog 36 #[.pointer (some ⟨g.F, i * 5, none⟩), vI x] w fun e w' => e = .returned (.bool true) ∧ Aft w w' g box ⟨g.ps.q.set i (g.ps.q.getD i [] ++ [x]), g.ps.n, g.ps.b⟩ := by
  refine (RI.add_ok (h.feed hi) (take_len g.fs hi) (h.fr i hi).1 (by decide) hl (by omega) x).mono ?_
  rintro e w' ⟨rfl, v', st', h1, h2, h3, h4⟩
  refine ⟨rfl, ?_⟩
  obtain ⟨k1, k2, k3⟩ := h.setF hi (y := ⟨v', st', (g.fs.getD i fd0).q ++ [x], (g.fs.getD i fd0).n⟩) h3 (by rw [List.length_append]; exact h1) h2 h4 (by rw [List.length_append, List.length_cons, List.length_nil]; omega) (h.fr i hi).2.2.1 (fun z hz => by
    rcases List.mem_append.1 hz with hz | hz
    · exact (h.fr i hi).2.2.2 z hz
    · rw [List.mem_singleton] at hz; rw [hz]; exact hx)
  refine ⟨g.setF i ⟨v', st', (g.fs.getD i fd0).q ++ [x], (g.fs.getD i fd0).n⟩, rfl, k1, ?_, k2, k3⟩
  rw [setF_ps]
  simp only
  rw [ps_q hi, ← ps_n hi, set_getD_self]
theorem add_feed_full {w : World} {g : Fx} {box : Nat} (h : Fw w g box) {i : Nat} (hi : i < g.fs.length) (x : It) (hl : (g.fs.getD i fd0).q.length = 65536) : Calls Try.prog 36 #[.pointer (some ⟨g.F, i * 5, none⟩), vI x] w fun e w' => e = .returned (.bool false) ∧ Fr w w' (fun _ => False) := by
  have hb := h.feed hi
  rw [hl] at hb
  exact RI.add_full hb (take_len g.fs hi) x
set_option maxHeartbeats 2000000 in
theorem put_any {w : World} {g : Fx} {box : Nat} (h : Fw w g box) (i : Int) (x : It) : Calls Try.prog 16 #[.pointer (some ⟨g.B, 0, none⟩), .int .i64 i, vI x] w fun e w' => e = .returned (.int .i64 (putE g.ps i x)) ∧ Aft w w' g box (putS g.ps i x) := by
  obtain ⟨c0, c1, hlt⟩ := h.cells
  have hio := fun W => isOfF_any i (some ⟨g.F, 0, none⟩) g.fs.length g.cf W
  have HSM := hid (fun (W : World) (hW : Fr w W (fun _ => False)) => Aft.same h hW)
  by_cases hi : 0 ≤ i ∧ i < (g.fs.length : Int)
  case neg =>
    have e1 : putE g.ps i x = 1 := by unfold putE; rw [ps_ql, if_pos hi]
    have e2 : putS g.ps i x = g.ps := by unfold putS; rw [e1, if_neg (by decide)]
    rw [e1, e2]
    have e3 : inN i g.fs.length = false := decide_eq_false hi
    rw [e3] at hio
    have HIO := hid hio
    clear h hio c1 e1 e2 e3
    unfold vI
    go_enter Try.func16, Try.ntmps16
    go_wp2_with fail
    refine (HIO.out _).mono ?_
    rintro e w1 ⟨rfl, rfl⟩
    go_wp2_with fail
    go_ret
    exact ⟨rfl, HSM.out _ ((Fr.refl _ _).alloc _)⟩
  case pos =>
    obtain ⟨n, rfl⟩ : ∃ n : Nat, i = (n : Int) := ⟨i.toNat, by omega⟩
    have hn : n < g.fs.length := by omega
    have e3 : inN (n : Int) g.fs.length = true := decide_eq_true hi
    rw [e3] at hio
    have HIO := hid hio
    have HC := hid (fun W => check_any x W)
    by_cases hx : errC x = 0
    case neg =>
      have e1 : putE g.ps (n : Int) x = errC x := by unfold putE; rw [ps_ql, if_neg (fun h => h hi), if_pos hx]
      have e2 : putS g.ps (n : Int) x = g.ps := by unfold putS; rw [e1, if_neg hx]
      rw [e1, e2]
      have hx' : (errC x != 0) = true := by simpa using hx
      clear h hio c1 e1 e2 e3 hx hi
      generalize errC x = er at *
      unfold vI at HC ⊢
      go_enter Try.func16, Try.ntmps16
      go_wp2_with fail
      refine (HIO.out _).mono ?_
      rintro e w1 ⟨rfl, rfl⟩
      go_wp2_with fail
      refine (HC.out _).mono ?_
      rintro e w1 ⟨rfl, hf⟩
      have HF := hid (((Fr.refl w _).alloc _).trans hf)
      clear hf
      go_wp2_with fail
      go_ret
      exact ⟨rfl, HSM.out _ HF.out⟩
    case pos =>
      rw [hx] at HC
      have hfe := (h.fr n hn).2.1
      by_cases hl : (g.fs.getD n fd0).q.length = 65536
      · have e1 : putE g.ps (n : Int) x = 2 := by unfold putE; rw [ps_ql, if_neg (fun h => h hi), if_neg (fun h => h hx), Int.toNat_natCast, ps_q hn, if_pos (by omega)]
        have e2 : putS g.ps (n : Int) x = g.ps := by unfold putS; rw [e1, if_neg (by decide)]
        rw [e1, e2]
        have HAD := hid (fun (W : World) (hW : Fr w W (fun _ => False)) => add_feed_full (h.still hW) hn x hl)
        have HCE := hid (fun (W : World) (hW : Fr w W (fun _ => False)) => (h.still hW).cells)
        obtain ⟨hi1, hi2⟩ := hi
        clear h hio c1 e1 e2 e3 hx hfe hl
        generalize g.fs.length = m at *
        unfold vI at HC HAD ⊢
        go_enter Try.func16, Try.ntmps16
        go_wp2_with fail
        refine (HIO.out _).mono ?_
        rintro e w1 ⟨rfl, rfl⟩
        go_wp2_with fail
        refine (HC.out _).mono ?_
        rintro e w1 ⟨rfl, hf⟩
        have HF := hid (((Fr.refl w _).alloc _).trans hf)
        have HX := hid (keep_block (RI.new_el (w := w) (T := 33) (x := x) rfl) hf (fun h => h))
        clear hf c0 hlt
        obtain ⟨c0, c1, hlt⟩ := HCE.out _ HF.out
        obtain ⟨d0, d1, d2, d3⟩ := RI.el_cells HX.out
        have hxl := lt_of_block HX.out
        generalize w.heap.size = N at *
        go_wp2_with fail
        go_region_with (go_at_call 36; refine (HAD.out _ HF.out.drew).mono ?_; rintro e w2 ⟨rfl, hf2⟩; have HF2 := hid (HF.out.drew.trans hf2); clear hf2)
        all_goals
          go_wp2_with fail
          go_ret
          exact ⟨rfl, HSM.out _ HF2.out⟩
      · have e1 : putE g.ps (n : Int) x = 0 := by unfold putE; rw [ps_ql, if_neg (fun h => h hi), if_neg (fun h => h hx), Int.toNat_natCast, ps_q hn, if_neg (by omega)]
        have e2 : putS g.ps (n : Int) x = ⟨g.ps.q.set n (g.ps.q.getD n [] ++ [x]), g.ps.n, g.ps.b⟩ := by unfold putS; rw [e1, if_pos rfl, Int.toNat_natCast]
        rw [e1, e2]
        have HAD := hid (fun (W : World) (hW : Fr w W (fun _ => False)) => add_feed (h.still hW) hn x hx (by omega))
        have HCE := hid (fun (W : World) (hW : Fr w W (fun _ => False)) => (h.still hW).cells)
        obtain ⟨hi1, hi2⟩ := hi
        clear h hio c1 e1 e2 e3 hx hfe hl
        generalize g.fs.length = m at *
        unfold vI at HC HAD ⊢
        go_enter Try.func16, Try.ntmps16
        go_wp2_with fail
        refine (HIO.out _).mono ?_
        rintro e w1 ⟨rfl, rfl⟩
        go_wp2_with fail
        refine (HC.out _).mono ?_
        rintro e w1 ⟨rfl, hf⟩
        have HF := hid (((Fr.refl w _).alloc _).trans hf)
        have HX := hid (keep_block (RI.new_el (w := w) (T := 33) (x := x) rfl) hf (fun h => h))
        clear hf c0 hlt
        obtain ⟨c0, c1, hlt⟩ := HCE.out _ HF.out
        obtain ⟨d0, d1, d2, d3⟩ := RI.el_cells HX.out
        have hxl := lt_of_block HX.out
        generalize w.heap.size = N at *
        go_wp2_with fail
        go_region_with (go_at_call 36; refine (HAD.out _ HF.out.drew).mono ?_; rintro e w2 ⟨rfl, hA⟩; have HA := hid (Aft.pre HF.out.drew hA); clear hA)
        all_goals
          go_wp2_with fail
          go_ret
          exact ⟨rfl, HA.out⟩
end Go.Proofs.Ytlgbciibhmcokaa
