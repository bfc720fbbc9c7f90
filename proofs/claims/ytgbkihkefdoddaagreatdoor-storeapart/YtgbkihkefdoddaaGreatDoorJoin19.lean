/- agg.sumMayBe, Right: walks. -/
import Derived.Test.YtgbkihkefdoddaaGreatDoorJoin18
import Derived.Deep.DeepCutAuto
import Derived.Deep.RegionHeld3
namespace Go.Proofs.YtgbkihkefdoddaaGreatDoor.A
open Go.RowKit

/-- Blocks that hold what they hold, and that nothing old has turned. -/
def SB (w : World) (L : List (Nat × Obj)) (W : World) : Prop := (∀ q ∈ L, W.heap[q.1]? = some q.2) ∧ Fr w W (fun _ => False)
theorem SB.step {w : World} {L : List (Nat × Obj)} {W W' : World} (h : SB w L W) (hf : Fr W W' (fun _ => False)) : SB w L W' :=
  ⟨fun q hq => by rw [hf.block q.1 (lt_of_block (h.1 q hq)) (fun h => h)]; exact h.1 q hq, h.2.trans hf⟩
theorem SB.drew {w : World} {L : List (Nat × Obj)} {W : World} (h : SB w L W) : SB w L W.drew := h.step (Fr.refl W _).drew
theorem SB.alloc {w : World} {L : List (Nat × Obj)} {W : World} (h : SB w L W) (o : Obj) : SB w L (W.alloc o) := h.step (alloc_fr W o _)
theorem SB.setCell {w : World} {L : List (Nat × Obj)} {W : World} (h : SB w L W) (p : Addr) (hp : w.heap.size ≤ p.block) (hB : ∀ q ∈ L, ¬ q.1 = p.block) (u : Value) : SB w L (W.setCell p u) :=
  ⟨fun q hq => by
    rw [((Fr.refl W (fun k => k = p.block)).setCell (fun _ => rfl) u).block q.1 (lt_of_block (h.1 q hq)) (hB q hq)]
    exact h.1 q hq, h.2.setCell (fun h => by omega) u⟩
theorem SB.lt {w : World} {L : List (Nat × Obj)} {W : World} (h : SB w L W) : w.heap.size ≤ W.heap.size := h.2.size
theorem SB.more {w : World} {L : List (Nat × Obj)} {W : World} (h : SB w L W) {b : Nat} {o : Obj} (hb : W.heap[b]? = some o) : SB w ((b, o) :: L) W :=
  ⟨fun q hq => by
    rcases List.mem_cons.1 hq with rfl | hq
    · exact hb
    · exact h.1 q hq, h.2⟩
theorem ret_bool {a b : Bool} (h : a = b) : Ending.returned (.bool a) = .returned (.bool b) := by rw [h]
/-- An aggregate's block, a wide number's. -/
def agO (a : Ag) : Obj := .cells #[.int .i64 a.c, .int .i64 a.s, .int .i64 a.lo, .int .i64 a.hi] 35 (0, 0)
def wiO (x : Int) : Obj := .cells #[.int .i64 (hi64 x), .int .u64 (lo64 x)] 207 (0, 0)

/-- Block B holds a wide number. -/
def WiAt (w : World) (B : Nat) (x y : Int) : Prop := w.heap[B]? = some (.cells #[.int .i64 x, .int .u64 y] 207 (0, 0))
theorem WiAt.cells {w : World} {B : Nat} {x y : Int} (h : WiAt w B x y) : w.cell? ⟨B, 0, none⟩ = some (.int .i64 x) ∧ w.cell? ⟨B, 1, none⟩ = some (.int .u64 y) ∧ ∀ o, w.frozen? ⟨B, o, none⟩ = false := by
  have h' : w.heap[B]? = some (.cells #[.int .i64 x, .int .u64 y] 207 (0, 0)) := h
  refine ⟨?_, ?_, fun o => ?_⟩
  · simp [World.cell?, h']
  · simp [World.cell?, h']
  · simp [World.frozen?, h']
theorem WiAt.fr {w w' : World} {S : Nat → Prop} {B : Nat} {x y : Int} (h : WiAt w B x y) (hf : Fr w w' S) (hS : ¬ S B) : WiAt w' B x y := by
  unfold WiAt
  rw [hf.block B (lt_of_block h) hS]
  exact h
theorem WiAt.new (w : World) (x y : Int) (k : Nat) (hk : w.heap.size = k) : WiAt (w.alloc (.cells #[.int .i64 x, .int .u64 y] 207)) k x y := heap_last _ _ _ hk
theorem WiAt.obj {w : World} {B : Nat} {x : Int} (h : WiAt w B (hi64 x) (lo64 x)) : w.heap[B]? = some (wiO x) := h
theorem WiAt.drew {w : World} {B : Nat} {x y : Int} (h : WiAt w B x y) : WiAt w.drew B x y := h
theorem WiAt.set {w : World} {B : Nat} {x y : Int} (h : WiAt w B x y) (x' y' : Int) : WiAt ((w.setCell ⟨B, 0, none⟩ (.int .i64 x')).setCell ⟨B, 1, none⟩ (.int .u64 y')) B x' y' := by
  unfold WiAt
  rw [heap_setCell_same _ B 1 _ _ _ (heap_setCell_same w B 0 _ _ _ h)]
  simp

theorem sb_cells {w W : World} {a : Ag} (h : SB w [(w.heap.size, agO a)] W) : Hid (SB w [(w.heap.size, agO a)] W) ∧ W.cell? ⟨w.heap.size, 2, none⟩ = some (.int .i64 a.lo) ∧ W.cell? ⟨w.heap.size, 3, none⟩ = some (.int .i64 a.hi) := by
  have hA : AgAt W w.heap.size a := h.1 (w.heap.size, agO a) (by simp)
  exact ⟨h, hA.cells.2.2.1, hA.cells.2.2.2.1⟩
theorem sb_cells2 {w W : World} {a : Ag} {q : Nat × Obj} (h : SB w [q, (w.heap.size, agO a)] W) : Hid (SB w [q, (w.heap.size, agO a)] W) ∧ W.cell? ⟨w.heap.size, 2, none⟩ = some (.int .i64 a.lo) ∧ W.cell? ⟨w.heap.size, 3, none⟩ = some (.int .i64 a.hi) := by
  have hA : AgAt W w.heap.size a := h.1 (w.heap.size, agO a) (by simp)
  exact ⟨h, hA.cells.2.2.1, hA.cells.2.2.2.1⟩

set_option maxHeartbeats 2000000 in
theorem sumMayBe_any (a : Ag) (ha : a.ok) (h2 : 2 ≤ a.c) (w : World) :
    Calls Tryz.prog 114 #[.agg #[.int .i64 a.c, .int .i64 a.s, .int .i64 a.lo, .int .i64 a.hi]] w fun e w' =>
      e = .returned (.bool (decide ((a.c - 2) * a.lo + a.lo + a.hi ≤ a.s ∧ a.s ≤ (a.c - 2) * a.hi + a.lo + a.hi))) ∧ Fr w w' (fun _ => False) := by
  obtain ⟨⟨_, hc⟩, hs, hlo, hhi⟩ := ha
  have hc2 : fits (a.c - 2) := ⟨by omega, by omega⟩
  have b1 := mul_bd2 (show 0 ≤ a.c - 2 by omega) (by omega) hlo
  have b2 := mul_bd2 (show 0 ≤ a.c - 2 by omega) (by omega) hhi
  have hlo' := hlo
  have hhi' := hhi
  unfold fits at hlo' hhi'
  have w1 : wideIn ((a.c - 2) * a.lo + a.lo) := by unfold wideIn; omega
  have w2 : wideIn ((a.c - 2) * a.lo + a.lo + a.hi) := by unfold wideIn; omega
  have w3 : wideIn ((a.c - 2) * a.hi + a.lo) := by unfold wideIn; omega
  have w4 : wideIn ((a.c - 2) * a.hi + a.lo + a.hi) := by unfold wideIn; omega
  have HA0 : Hid (SB w [(w.heap.size, agO a)] (w.alloc (.cells #[.int .i64 a.c, .int .i64 a.s, .int .i64 a.lo, .int .i64 a.hi] 35))) := ⟨fun q hq => by simp only [List.mem_singleton] at hq; subst hq; exact heap_last _ _ _ rfl, alloc_fr _ _ _⟩
  clear b1 b2 hlo' hhi'
  have t1 : a.c - 2 ≤ 9223372036854775805 := by omega
  go_enter Tryz.func114, Tryz.ntmps114
  go_wp2_with fail
  go_cut [4] (fun s wx => ∃ B, s = .pointer (some ⟨B, 0, none⟩) ∧ Hid (SB w ((B, wiO ((a.c - 2) * a.lo + a.lo + a.hi)) :: [(w.heap.size, agO a)]) wx ∧ w.heap.size < B))
  case first =>
    go_region_held3 (fun W' => Hid (SB w [(w.heap.size, agO a)] W') ∧ W'.cell? ⟨w.heap.size, 2, none⟩ = some (.int .i64 a.lo) ∧ W'.cell? ⟨w.heap.size, 3, none⟩ = some (.int .i64 a.hi))
      ((refine sb_cells ?_; repeat (first | exact HA3.out | exact HA2.out | exact HA1.out | exact HA0.out | apply SB.drew | apply SB.alloc | (refine SB.setCell ?_ _ ?_ ?_ _; rotate_left; ((try simp) <;> omega); ((try simp) <;> omega)))))
      (first
        | (go_at_call 147; refine (times_any (a.c - 2) a.lo hc2 hlo _).mono ?_; rintro e v1 ⟨rfl, hf1⟩; have HA1 := hid (SB.step (by repeat (first | exact HA0.out | apply SB.drew | apply SB.alloc)) hf1); (try (have HZ := hid (WiAt.fr (by first | exact WiAt.new _ 0 0 (w.heap.size + 1) (by simp) | exact WiAt.drew (WiAt.new _ 0 0 (w.heap.size + 1) (by simp))) hf1 (fun h => h)))); (have hl1 := lt_of_block (HA1.out.1 (w.heap.size, agO a) (by simp))); clear hf1)
        | (go_at_call 148; refine (plus_any _ _ ?_ ?_ _).mono ?_; (first | exact hlo | exact hhi); (first | exact w1 | exact w2); rintro e v2 ⟨rfl, hf2⟩; (first | (have HA3 := hid (SB.step (by repeat (first | exact HA2.out | apply SB.drew | apply SB.alloc)) hf2)) | (have HA2 := hid (SB.step (by repeat (first | exact HA1.out | apply SB.drew | apply SB.alloc)) hf2))); (try (have HZ := hid (WiAt.fr (by first | exact HZ.out | exact HZ.out.drew | exact WiAt.new _ 0 0 _ rfl | exact WiAt.drew (WiAt.new _ 0 0 _ rfl)) hf2 (fun h => h)); have hzc := HZ.out.cells; obtain ⟨z0, z1, z2⟩ := hzc)); (first | (have hl3 := lt_of_block (HA3.out.1 (w.heap.size, agO a) (by simp))) | (have hl2 := lt_of_block (HA2.out.1 (w.heap.size, agO a) (by simp)))); clear hf2; unfold wideV))
    all_goals (go_wp2_with fail)
    all_goals go_meet
    all_goals refine ⟨_, rfl, hid ⟨SB.more ?_ (WiAt.obj (by first | exact HZ.out.set _ _ | exact WiAt.new _ _ _ _ rfl)), (by omega)⟩⟩
    all_goals (repeat (first | exact HA3.out | exact HA2.out | exact HA1.out | exact HA0.out | apply SB.drew | apply SB.alloc | (refine SB.setCell ?_ _ ?_ ?_ _; rotate_left; ((try simp) <;> omega); ((try simp) <;> omega))))
  case rest =>
    obtain ⟨P, rfl, HP⟩ := hcut
    clear HA0
    obtain ⟨HA0, hP⟩ := HP.out
    have HA0 := hid HA0
    have hl0 := lt_of_block (HA0.out.1 (w.heap.size, agO a) (by simp))
    have hk0 := lt_of_block (HA0.out.1 (P, wiO ((a.c - 2) * a.lo + a.lo + a.hi)) (by simp))
    simp only at hk0 hl0
    clear HP
    go_wp2_with fail
    go_cut [5] (fun s wx => ∃ B, s = .pointer (some ⟨B, 0, none⟩) ∧ Hid (SB w ((B, wiO ((a.c - 2) * a.hi + a.lo + a.hi)) :: [(P, wiO ((a.c - 2) * a.lo + a.lo + a.hi)), (w.heap.size, agO a)]) wx ∧ w.heap.size < B))
    case first =>
      go_region_held3 (fun W' => Hid (SB w [(P, wiO ((a.c - 2) * a.lo + a.lo + a.hi)), (w.heap.size, agO a)] W') ∧ W'.cell? ⟨w.heap.size, 2, none⟩ = some (.int .i64 a.lo) ∧ W'.cell? ⟨w.heap.size, 3, none⟩ = some (.int .i64 a.hi))
        ((refine sb_cells2 ?_; repeat (first | exact HA3.out | exact HA2.out | exact HA1.out | exact HA0.out | apply SB.drew | apply SB.alloc | (refine SB.setCell ?_ _ ?_ ?_ _; rotate_left; ((try simp) <;> omega); ((try simp) <;> omega)))))
        (first
          | (go_at_call 147; refine (times_any (a.c - 2) a.hi hc2 hhi _).mono ?_; rintro e v1 ⟨rfl, hf1⟩; have HA1 := hid (SB.step (by repeat (first | exact HA0.out | apply SB.drew | apply SB.alloc)) hf1); (try (have HZ := hid (WiAt.fr (by first | exact WiAt.new _ 0 0 _ rfl | exact WiAt.drew (WiAt.new _ 0 0 _ rfl)) hf1 (fun h => h)))); (have hl1 := lt_of_block (HA1.out.1 (w.heap.size, agO a) (by simp)); have hk1 := lt_of_block (HA1.out.1 (P, wiO ((a.c - 2) * a.lo + a.lo + a.hi)) (by simp)); simp only at hk1); clear hf1)
          | (go_at_call 148; refine (plus_any _ _ ?_ ?_ _).mono ?_; (first | exact hlo | exact hhi); (first | exact w3 | exact w4); rintro e v2 ⟨rfl, hf2⟩; (first | (have HA3 := hid (SB.step (by repeat (first | exact HA2.out | apply SB.drew | apply SB.alloc)) hf2)) | (have HA2 := hid (SB.step (by repeat (first | exact HA1.out | apply SB.drew | apply SB.alloc)) hf2))); (try (have HZ := hid (WiAt.fr (by first | exact HZ.out | exact HZ.out.drew | exact WiAt.new _ 0 0 _ rfl | exact WiAt.drew (WiAt.new _ 0 0 _ rfl)) hf2 (fun h => h)); have hzc := HZ.out.cells; obtain ⟨z0, z1, z2⟩ := hzc)); (first | (have hl3 := lt_of_block (HA3.out.1 (w.heap.size, agO a) (by simp)); have hk3 := lt_of_block (HA3.out.1 (P, wiO ((a.c - 2) * a.lo + a.lo + a.hi)) (by simp)); simp only at hk3) | (have hl2 := lt_of_block (HA2.out.1 (w.heap.size, agO a) (by simp)); have hk2 := lt_of_block (HA2.out.1 (P, wiO ((a.c - 2) * a.lo + a.lo + a.hi)) (by simp)); simp only at hk2)); clear hf2; unfold wideV))
      all_goals (go_wp2_with fail)
      all_goals go_meet
      all_goals refine ⟨_, rfl, hid ⟨SB.more ?_ (WiAt.obj (by first | exact HZ.out.set _ _ | exact WiAt.new _ _ _ _ rfl)), (by omega)⟩⟩
      all_goals (repeat (first | exact HA3.out | exact HA2.out | exact HA1.out | exact HA0.out | apply SB.drew | apply SB.alloc | (refine SB.setCell ?_ _ ?_ ?_ _; rotate_left; ((try simp) <;> omega); ((try simp) <;> omega))))
    case rest =>
      obtain ⟨R, rfl, HR⟩ := hcut
      obtain ⟨HS, hR⟩ := HR.out
      have hA : AgAt wc w.heap.size a := HS.1 (w.heap.size, agO a) (by simp)
      have c1 := hA.cells.2.1
      have HS := hid HS
      clear HR HA0 hA hl0 hk0 hR hP
      go_wp2_with fail
      refine (widen_any a.s hs _).mono ?_
      rintro e v1 ⟨rfl, hf1⟩
      have HS1 := hid (HS.out.step hf1)
      clear hf1
      have hWP : WiAt v1 P (hi64 ((a.c - 2) * a.lo + a.lo + a.hi)) (lo64 ((a.c - 2) * a.lo + a.lo + a.hi)) := HS1.out.1 (P, wiO ((a.c - 2) * a.lo + a.lo + a.hi)) (by simp)
      have hWR : WiAt v1 R (hi64 ((a.c - 2) * a.hi + a.lo + a.hi)) (lo64 ((a.c - 2) * a.hi + a.lo + a.hi)) := HS1.out.1 (R, wiO ((a.c - 2) * a.hi + a.lo + a.hi)) (by simp)
      have hP := lt_of_block hWP
      have hR := lt_of_block hWR
      have HF1 := hid HS1.out.2
      clear HS HS1
      obtain ⟨X, hXe⟩ : ∃ X, X = (a.c - 2) * a.lo + a.lo + a.hi := ⟨_, rfl⟩
      obtain ⟨Y, hYe⟩ : ∃ Y, Y = (a.c - 2) * a.hi + a.lo + a.hi := ⟨_, rfl⟩
      rw [← hXe] at hWP
      rw [← hYe] at hWR
      have HXE := hid hXe
      have HYE := hid hYe
      clear hXe hYe w1 w2 w3 w4
      have p := hWP.cells
      have q := hWR.cells
      obtain ⟨p0, p1, p2⟩ := p
      obtain ⟨q0, q1, q2⟩ := q
      have HWR := hid hWR
      clear hWP hWR
      unfold wideV
      by_cases hX : X ≤ a.s
      · have hXd : decide (a.s < X) = false := by simp; omega
        have HB1 := hid (fun W : World => below_any a.s X W)
        rw [hXd] at HB1
        clear hXd
        unfold wideV at HB1
        have HB2 := hid (fun W : World => below_any Y a.s W)
        unfold wideV at HB2
        have HX := hid hX
        clear hX
        go_wp2_with fail
        refine (HB1.out _).mono ?_
        rintro e v2 ⟨rfl, hf2⟩
        obtain ⟨r1, r2⟩ := fr_rules hf2
        have HF2 := hid ((HF1.out.alloc _).trans hf2)
        clear hf2
        go_wp2_with fail
        refine (HB2.out _).mono ?_
        rintro e v3 ⟨rfl, hf3⟩
        have HF3 := hid (HF2.out.trans hf3)
        clear hf3
        go_wp2_with fail
        go_ret
        refine ⟨ret_bool ?_, HF3.out⟩
        rw [← HXE.out, ← HYE.out, Bool.eq_iff_iff]
        have := HX.out
        simp
        omega
      · have hXd : decide (a.s < X) = true := by simp; omega
        have HB1 := hid (fun W : World => below_any a.s X W)
        rw [hXd] at HB1
        clear hXd
        unfold wideV at HB1
        have HX := hid hX
        clear hX
        go_wp2_with fail
        refine (HB1.out _).mono ?_
        rintro e v2 ⟨rfl, hf2⟩
        have HF2 := hid ((HF1.out.alloc _).trans hf2)
        clear hf2
        go_wp2_with fail
        go_ret
        refine ⟨ret_bool ?_, HF2.out⟩
        rw [← HXE.out, ← HYE.out, eq_comm, decide_eq_false_iff_not]
        have := HX.out
        omega
set_option maxHeartbeats 1000000 in
theorem right_any (a : Ag) (ha : a.ok) (w : World) :
    Calls Tryz.prog 74 #[.agg #[.int .i64 a.c, .int .i64 a.s, .int .i64 a.lo, .int .i64 a.hi]] w fun e w' =>
      e = .returned (.bool (rightB a.c a.s a.lo a.hi)) ∧ Fr w w' (fun _ => False) := by
  by_cases h1 : a.c < 0
  · have hr : rightB a.c a.s a.lo a.hi = false := by unfold rightB; rw [if_pos (by omega)]; simp; omega
    rw [hr]
    clear hr
    go_enter Tryz.func74, Tryz.ntmps74
    go_wp2
    go_ret
    exact ⟨rfl, alloc_fr _ _ _⟩
  by_cases h2 : a.c = 0
  · have hr : rightB a.c a.s a.lo a.hi = decide (a.s = 0 ∧ a.lo = 0 ∧ a.hi = 0) := by unfold rightB; rw [if_pos (by omega), h2]; simp
    rw [hr, h2]
    clear hr h1 h2 ha
    go_enter Tryz.func74, Tryz.ntmps74
    go_wp2
    all_goals (go_ret; refine ⟨ret_bool ?_, alloc_fr _ _ _⟩; simp [*])
  by_cases h3 : a.c = 1
  · have hr : rightB a.c a.s a.lo a.hi = decide (a.s = a.lo ∧ a.s = a.hi) := by unfold rightB; rw [if_neg (by omega), if_pos h3]
    rw [hr, h3]
    clear hr h1 h2 h3 ha
    by_cases h4 : a.s = a.lo
    · have h4b : (a.s == a.lo) = true := by simpa using h4
      have H4 := hid h4
      clear h4
      go_enter Tryz.func74, Tryz.ntmps74
      go_wp2
      all_goals (go_ret; refine ⟨ret_bool ?_, alloc_fr _ _ _⟩)
      all_goals (have := H4.out; rw [Bool.eq_iff_iff]; simp; try omega)
    · have h4b : (a.s == a.lo) = false := by simpa using h4
      have H4 := hid h4
      clear h4
      go_enter Tryz.func74, Tryz.ntmps74
      go_wp2
      all_goals (go_ret; refine ⟨ret_bool ?_, alloc_fr _ _ _⟩)
      all_goals (have := H4.out; rw [eq_comm, decide_eq_false_iff_not]; omega)
  have hc : ¬ a.c ≤ 0 := by omega
  have hr : rightB a.c a.s a.lo a.hi = decide (a.lo ≤ a.hi ∧ (a.c - 2) * a.lo + a.lo + a.hi ≤ a.s ∧ a.s ≤ (a.c - 2) * a.hi + a.lo + a.hi) := by unfold rightB; rw [if_neg hc, if_neg h3]
  rw [hr]
  clear hr
  by_cases h4 : a.lo ≤ a.hi
  · have HS := hid (fun W : World => sumMayBe_any a ha (by omega) W)
    have H4 := hid h4
    have h5 : decide (a.lo ≤ a.hi) = true := by simpa using h4
    have h6 : (a.c == 0) = false := by simpa using h2
    have h7 : (a.c == 1) = false := by simpa using h3
    clear h2 h3 h4
    go_enter Tryz.func74, Tryz.ntmps74
    go_wp2_with fail
    refine (HS.out _).mono ?_
    rintro e w1 ⟨rfl, hf⟩
    have HF := hid hf
    clear hf
    go_wp2_with fail
    go_ret
    refine ⟨ret_bool ?_, (alloc_fr _ _ _).trans HF.out⟩
    have := H4.out
    rw [Bool.eq_iff_iff]
    simp [this]
  · have h5 : decide (a.lo ≤ a.hi) = false := by simpa using h4
    have h6 : (a.c == 0) = false := by simpa using h2
    have h7 : (a.c == 1) = false := by simpa using h3
    clear h2 h3 h4
    go_enter Tryz.func74, Tryz.ntmps74
    go_wp2_with fail
    go_ret
    exact ⟨rfl, alloc_fr _ _ _⟩
end Go.Proofs.YtgbkihkefdoddaaGreatDoor.A
