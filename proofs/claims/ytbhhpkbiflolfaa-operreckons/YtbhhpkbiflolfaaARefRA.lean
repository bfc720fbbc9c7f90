/- The document's Right: walks. -/
import Derived.Test.YtbhhpkbiflolfaaARefA4
import Derived.Deep.DeepCutAuto
import Derived.Deep.RegionHeld3
namespace Go.Proofs.Ytbhhpkbiflolfaa.A
open Go.RowKit

/-- Block B holds a Wide. -/
def RwAt (w : World) (B : Nat) (b : Bool) (x y : Int) : Prop := w.heap[B]? = some (.cells #[.bool b, .int .u64 x, .int .u64 y] 102 (0, 0))
def rfO (x : Int) : Obj := .cells #[.bool (decide (x < 0)), .int .u64 (nhi x), .int .u64 (nlo x)] 102 (0, 0)
theorem RwAt.cells {w : World} {B : Nat} {b : Bool} {x y : Int} (h : RwAt w B b x y) : w.cell? ⟨B, 0, none⟩ = some (.bool b) ∧ w.cell? ⟨B, 1, none⟩ = some (.int .u64 x) ∧ w.cell? ⟨B, 2, none⟩ = some (.int .u64 y) ∧ ∀ o, w.frozen? ⟨B, o, none⟩ = false := by
  have h' : w.heap[B]? = some (.cells #[.bool b, .int .u64 x, .int .u64 y] 102 (0, 0)) := h
  refine ⟨?_, ?_, ?_, fun o => ?_⟩
  · simp [World.cell?, h']
  · simp [World.cell?, h']
  · simp [World.cell?, h']
  · simp [World.frozen?, h']
theorem RwAt.fr {w w' : World} {S : Nat → Prop} {B : Nat} {b : Bool} {x y : Int} (h : RwAt w B b x y) (hf : Fr w w' S) (hS : ¬ S B) : RwAt w' B b x y := by
  unfold RwAt
  rw [hf.block B (lt_of_block h) hS]
  exact h
theorem RwAt.new (w : World) (b : Bool) (x y : Int) (k : Nat) (hk : w.heap.size = k) : RwAt (w.alloc (.cells #[.bool b, .int .u64 x, .int .u64 y] 102)) k b x y := heap_last _ _ _ hk
theorem RwAt.drew {w : World} {B : Nat} {b : Bool} {x y : Int} (h : RwAt w B b x y) : RwAt w.drew B b x y := h
theorem RwAt.set {w : World} {B : Nat} {b : Bool} {x y : Int} (h : RwAt w B b x y) (b' : Bool) (x' y' : Int) : RwAt (((w.setCell ⟨B, 0, none⟩ (.bool b')).setCell ⟨B, 1, none⟩ (.int .u64 x')).setCell ⟨B, 2, none⟩ (.int .u64 y')) B b' x' y' := by
  unfold RwAt
  rw [heap_setCell_same _ B 2 _ _ _ (heap_setCell_same _ B 1 _ _ _ (heap_setCell_same w B 0 _ _ _ h))]
  simp
theorem sb_pick {w W : World} {L : List (Nat × Obj)} (h : SB w L W) {B : Nat} {a : Ag} (hm : (B, agO a) ∈ L) : W.cell? ⟨B, 0, none⟩ = some (.int .i64 a.c) ∧ W.cell? ⟨B, 1, none⟩ = some (.int .i64 a.s) ∧ W.cell? ⟨B, 2, none⟩ = some (.int .i64 a.lo) ∧ W.cell? ⟨B, 3, none⟩ = some (.int .i64 a.hi) := by
  have hA : AgAt W B a := h.1 (B, agO a) hm
  exact ⟨hA.cells.1, hA.cells.2.1, hA.cells.2.2.1, hA.cells.2.2.2.1⟩
theorem sb_wide {w W : World} {L : List (Nat × Obj)} (h : SB w L W) {B : Nat} {x : Int} (hm : (B, rfO x) ∈ L) : W.cell? ⟨B, 0, none⟩ = some (.bool (decide (x < 0))) ∧ W.cell? ⟨B, 1, none⟩ = some (.int .u64 (nhi x)) ∧ W.cell? ⟨B, 2, none⟩ = some (.int .u64 (nlo x)) := by
  have hA : RwAt W B (decide (x < 0)) (nhi x) (nlo x) := h.1 (B, rfO x) hm
  exact ⟨hA.cells.1, hA.cells.2.1, hA.cells.2.2.1⟩
theorem keep7 {w W : World} {a : Ag} (h : SB w [(w.heap.size, agO a)] W) : Hid (SB w [(w.heap.size, agO a)] W) ∧ W.cell? ⟨w.heap.size, 2, none⟩ = some (.int .i64 a.lo) ∧ W.cell? ⟨w.heap.size, 3, none⟩ = some (.int .i64 a.hi) := ⟨h, (sb_pick h (a := a) (B := w.heap.size) (by simp)).2.2.1, (sb_pick h (a := a) (B := w.heap.size) (by simp)).2.2.2⟩
theorem keep8 {w W : World} {a : Ag} {P : Nat} (h : SB w [(P, rfO (a.lo + a.hi)), (w.heap.size, agO a)] W) : Hid (SB w [(P, rfO (a.lo + a.hi)), (w.heap.size, agO a)] W) ∧ W.cell? ⟨P, 0, none⟩ = some (.bool (decide ((a.lo + a.hi) < 0))) ∧ W.cell? ⟨P, 1, none⟩ = some (.int .u64 (nhi (a.lo + a.hi))) ∧ W.cell? ⟨P, 2, none⟩ = some (.int .u64 (nlo (a.lo + a.hi))) ∧ W.cell? ⟨w.heap.size, 0, none⟩ = some (.int .i64 a.c) ∧ W.cell? ⟨w.heap.size, 2, none⟩ = some (.int .i64 a.lo) := ⟨h, (sb_wide h (B := P) (x := (a.lo + a.hi)) (by simp)).1, (sb_wide h (B := P) (x := (a.lo + a.hi)) (by simp)).2.1, (sb_wide h (B := P) (x := (a.lo + a.hi)) (by simp)).2.2, (sb_pick h (a := a) (B := w.heap.size) (by simp)).1, (sb_pick h (a := a) (B := w.heap.size) (by simp)).2.2.1⟩
theorem keep9 {w W : World} {a : Ag} {P R : Nat} (h : SB w [(R, rfO (a.lo + a.hi + (a.c - 2) * a.lo)), (P, rfO (a.lo + a.hi)), (w.heap.size, agO a)] W) : Hid (SB w [(R, rfO (a.lo + a.hi + (a.c - 2) * a.lo)), (P, rfO (a.lo + a.hi)), (w.heap.size, agO a)] W) ∧ W.cell? ⟨P, 0, none⟩ = some (.bool (decide ((a.lo + a.hi) < 0))) ∧ W.cell? ⟨P, 1, none⟩ = some (.int .u64 (nhi (a.lo + a.hi))) ∧ W.cell? ⟨P, 2, none⟩ = some (.int .u64 (nlo (a.lo + a.hi))) ∧ W.cell? ⟨w.heap.size, 0, none⟩ = some (.int .i64 a.c) ∧ W.cell? ⟨w.heap.size, 3, none⟩ = some (.int .i64 a.hi) := ⟨h, (sb_wide h (B := P) (x := (a.lo + a.hi)) (by simp)).1, (sb_wide h (B := P) (x := (a.lo + a.hi)) (by simp)).2.1, (sb_wide h (B := P) (x := (a.lo + a.hi)) (by simp)).2.2, (sb_pick h (a := a) (B := w.heap.size) (by simp)).1, (sb_pick h (a := a) (B := w.heap.size) (by simp)).2.2.2⟩
theorem keep10 {w W : World} {a : Ag} {R T : Nat} {X Y : Int} (h : SB w [(T, rfO Y), (R, rfO X), (w.heap.size, agO a)] W) : Hid (SB w [(T, rfO Y), (R, rfO X), (w.heap.size, agO a)] W) ∧ W.cell? ⟨R, 0, none⟩ = some (.bool (decide (X < 0))) ∧ W.cell? ⟨R, 1, none⟩ = some (.int .u64 (nhi X)) ∧ W.cell? ⟨R, 2, none⟩ = some (.int .u64 (nlo X)) ∧ W.cell? ⟨T, 0, none⟩ = some (.bool (decide (Y < 0))) ∧ W.cell? ⟨T, 1, none⟩ = some (.int .u64 (nhi Y)) ∧ W.cell? ⟨T, 2, none⟩ = some (.int .u64 (nlo Y)) ∧ W.cell? ⟨w.heap.size, 1, none⟩ = some (.int .i64 a.s) := by
  obtain ⟨r0, r1, r2⟩ := sb_wide h (B := R) (x := X) (by simp)
  obtain ⟨s0, s1, s2⟩ := sb_wide h (B := T) (x := Y) (by simp)
  have n1 := (sb_pick h (a := a) (B := w.heap.size) (by simp)).2.1
  exact ⟨h, r0, r1, r2, s0, s1, s2, n1⟩

set_option maxHeartbeats 8000000 in
theorem refSum_any (a : Ag) (ha : a.ok) (h2 : 2 ≤ a.c) (hle : a.lo ≤ a.hi) (w : World) :
    Calls Try.prog 19 #[.agg #[.int .i64 a.c, .int .i64 a.s, .int .i64 a.lo, .int .i64 a.hi]] w fun e w' =>
      e = .returned (.bool (decide ((a.c - 2) * a.lo + a.lo + a.hi ≤ a.s ∧ a.s ≤ (a.c - 2) * a.hi + a.lo + a.hi))) ∧ Fr w w' (fun _ => False) := by
  obtain ⟨⟨_, hc⟩, hs, hlo, hhi⟩ := ha
  have hc2 : fits (a.c - 2) := ⟨by omega, by omega⟩
  have b1 := mul_bd2 (show 0 ≤ a.c - 2 by omega) (by omega) hlo
  have b2 := mul_bd2 (show 0 ≤ a.c - 2 by omega) (by omega) hhi
  have hlo' := hlo
  have hhi' := hhi
  unfold fits at hlo' hhi'
  have r1 : room2 a.lo := by unfold room2 absI; split <;> omega
  have r2 : room2 a.hi := by unfold room2 absI; split <;> omega
  have r3 : room2 (a.lo + a.hi) := by unfold room2 absI; split <;> omega
  have r4 : room2 ((a.c - 2) * a.lo) := by unfold room2 absI; split <;> omega
  have r5 : room2 ((a.c - 2) * a.hi) := by unfold room2 absI; split <;> omega
  have HA : Hid (SB w [(w.heap.size, agO a)] (w.alloc (.cells #[.int .i64 a.c, .int .i64 a.s, .int .i64 a.lo, .int .i64 a.hi] 46))) := ⟨fun q hq => by simp only [List.mem_singleton] at hq; subst hq; exact heap_last _ _ _ rfl, alloc_fr _ _ _⟩
  clear b1 b2 hlo' hhi'
  have t1 : a.c - 2 ≤ 9223372036854775805 := by omega
  have hwr : IntKind.i64.wrap (a.c - 2) = a.c - 2 := by rw [IntKind.wrap_i64]; omega
  have t2 : ¬ a.c ≤ 0 := by omega
  have t3 : (a.c == 1) = false := by simp; omega
  have t4 : ¬ a.hi < a.lo := by omega
  go_enter Try.func19, Try.ntmps19
  go_wp2_with fail
  generalize w.alloc (.cells #[.int .i64 a.c, .int .i64 a.s, .int .i64 a.lo, .int .i64 a.hi] 46) = W0 at *
  have hl0 := lt_of_block (HA.out.1 (w.heap.size, agO a) (by simp))
  simp only at hl0
  go_cut [3] (fun s wx => ∃ B, s = .pointer (some ⟨B, 0, none⟩) ∧ Hid (SB w ((B, rfO (a.lo + a.hi)) :: [(w.heap.size, agO a)]) wx ∧ w.heap.size < B))
  case first =>
    go_region_held3 (fun W' => Hid (SB w [(w.heap.size, agO a)] W') ∧ W'.cell? ⟨w.heap.size, 2, none⟩ = some (.int .i64 a.lo) ∧ W'.cell? ⟨w.heap.size, 3, none⟩ = some (.int .i64 a.hi))
      ((refine keep7 ?_; repeat (first | exact HA.out | apply SB.drew | apply SB.alloc | (refine SB.setCell ?_ _ ?_ ?_ _; rotate_left; ((try simp) <;> omega); ((try simp) <;> omega)))))
      (first
        | (go_at_call 50; refine (rone_any _ ?_ _).mono ?_; (first | exact hlo | exact hhi | exact hs); rintro e v1 ⟨rfl, hf⟩; have HA := hid (SB.step (by repeat (first | exact HA.out | apply SB.drew | apply SB.alloc)) hf); (try (have HZ := hid (RwAt.fr (by first | exact HZ.out | exact HZ.out.drew | exact RwAt.new _ _ _ _ _ rfl | exact RwAt.drew (RwAt.new _ _ _ _ _ rfl)) hf (fun h => h)); have hzc := HZ.out.cells; obtain ⟨z0, z1, z2, z3⟩ := hzc)); (have hl0 := lt_of_block (HA.out.1 (w.heap.size, agO a) (by simp)); simp only at hl0); clear hf; unfold refV)
        | (go_at_call 49; refine (rplus_any _ _ ?_ ?_ _).mono ?_; (first | exact r1); (first | exact r2); rintro e v1 ⟨rfl, hf⟩; have HA := hid (SB.step (by repeat (first | exact HA.out | apply SB.drew | apply SB.alloc)) hf); (try (have HZ := hid (RwAt.fr (by first | exact HZ.out | exact HZ.out.drew | exact RwAt.new _ _ _ _ _ rfl | exact RwAt.drew (RwAt.new _ _ _ _ _ rfl)) hf (fun h => h)); have hzc := HZ.out.cells; obtain ⟨z0, z1, z2, z3⟩ := hzc)); (have hl0 := lt_of_block (HA.out.1 (w.heap.size, agO a) (by simp)); simp only at hl0); clear hf; unfold refV))
    all_goals (go_wp2_with fail)
    all_goals go_meet
    all_goals refine ⟨_, rfl, hid ⟨SB.more ?_ (by first | exact HZ.out.set _ _ _ | exact RwAt.new _ _ _ _ _ rfl), (by omega)⟩⟩
    all_goals (repeat (first | exact HA.out | apply SB.drew | apply SB.alloc | (refine SB.setCell ?_ _ ?_ ?_ _; rotate_left; ((try simp) <;> omega); ((try simp) <;> omega))))
  case rest =>
    obtain ⟨P, rfl, HP⟩ := hcut
    clear HA hl0
    obtain ⟨HA, hP⟩ := HP.out
    have HA := hid HA
    have hl0 := lt_of_block (HA.out.1 (w.heap.size, agO a) (by simp))
    have hk0 := lt_of_block (HA.out.1 (P, rfO (a.lo + a.hi)) (by simp))
    simp only at hk0 hl0
    clear HP
    go_wp2_with fail
    go_cut [4] (fun s wx => ∃ B, s = .pointer (some ⟨B, 0, none⟩) ∧ Hid (SB w ((B, rfO (a.lo + a.hi + (a.c - 2) * a.lo)) :: [(P, rfO (a.lo + a.hi)), (w.heap.size, agO a)]) wx ∧ w.heap.size < B))
    case first =>
      go_region_held3 (fun W' => Hid (SB w [(P, rfO (a.lo + a.hi)), (w.heap.size, agO a)] W') ∧ W'.cell? ⟨P, 0, none⟩ = some (.bool (decide ((a.lo + a.hi) < 0))) ∧ W'.cell? ⟨P, 1, none⟩ = some (.int .u64 (nhi (a.lo + a.hi))) ∧ W'.cell? ⟨P, 2, none⟩ = some (.int .u64 (nlo (a.lo + a.hi))) ∧ W'.cell? ⟨w.heap.size, 0, none⟩ = some (.int .i64 a.c) ∧ W'.cell? ⟨w.heap.size, 2, none⟩ = some (.int .i64 a.lo))
        ((refine keep8 ?_; repeat (first | exact HA.out | apply SB.drew | apply SB.alloc | (refine SB.setCell ?_ _ ?_ ?_ _; rotate_left; ((try simp) <;> omega); ((try simp) <;> omega)))))
        (first
          | (go_at_call 51; refine (rtimes_any _ _ ?_ ?_ _).mono ?_; (first | exact hc2); (first | exact hlo | exact hhi); rintro e v1 ⟨rfl, hf⟩; have HA := hid (SB.step (by repeat (first | exact HA.out | apply SB.drew | apply SB.alloc)) hf); (try (have HZ := hid (RwAt.fr (by first | exact HZ.out | exact HZ.out.drew | exact RwAt.new _ _ _ _ _ rfl | exact RwAt.drew (RwAt.new _ _ _ _ _ rfl)) hf (fun h => h)); have hzc := HZ.out.cells; obtain ⟨z0, z1, z2, z3⟩ := hzc)); (have hl0 := lt_of_block (HA.out.1 (P, rfO (a.lo + a.hi)) (by simp)); have hl1 := lt_of_block (HA.out.1 (w.heap.size, agO a) (by simp)); simp only at hl0 hl1); clear hf; unfold refV)
          | (go_at_call 49; refine (rplus_any _ _ ?_ ?_ _).mono ?_; (first | exact r3); (first | exact r4); rintro e v1 ⟨rfl, hf⟩; have HA := hid (SB.step (by repeat (first | exact HA.out | apply SB.drew | apply SB.alloc)) hf); (try (have HZ := hid (RwAt.fr (by first | exact HZ.out | exact HZ.out.drew | exact RwAt.new _ _ _ _ _ rfl | exact RwAt.drew (RwAt.new _ _ _ _ _ rfl)) hf (fun h => h)); have hzc := HZ.out.cells; obtain ⟨z0, z1, z2, z3⟩ := hzc)); (have hl0 := lt_of_block (HA.out.1 (P, rfO (a.lo + a.hi)) (by simp)); have hl1 := lt_of_block (HA.out.1 (w.heap.size, agO a) (by simp)); simp only at hl0 hl1); clear hf; unfold refV))
      all_goals (go_wp2_with fail)
      all_goals go_meet
      all_goals refine ⟨_, rfl, hid ⟨SB.more ?_ (by first | exact HZ.out.set _ _ _ | exact RwAt.new _ _ _ _ _ rfl), (by omega)⟩⟩
      all_goals (repeat (first | exact HA.out | apply SB.drew | apply SB.alloc | (refine SB.setCell ?_ _ ?_ ?_ _; rotate_left; ((try simp) <;> omega); ((try simp) <;> omega))))
    case rest =>
      obtain ⟨R, rfl, HR⟩ := hcut
      clear HA hl0 hk0
      obtain ⟨HA, hR⟩ := HR.out
      have HA := hid HA
      have hl0 := lt_of_block (HA.out.1 (w.heap.size, agO a) (by simp))
      have hk0 := lt_of_block (HA.out.1 (P, rfO (a.lo + a.hi)) (by simp))
      have hk1 := lt_of_block (HA.out.1 (R, rfO (a.lo + a.hi + (a.c - 2) * a.lo)) (by simp))
      simp only at hk0 hl0 hk1
      clear HR
      go_wp2_with fail
      go_cut [5] (fun s wx => ∃ B, s = .pointer (some ⟨B, 0, none⟩) ∧ Hid (SB w ((B, rfO (a.lo + a.hi + (a.c - 2) * a.hi)) :: [(R, rfO (a.lo + a.hi + (a.c - 2) * a.lo)), (P, rfO (a.lo + a.hi)), (w.heap.size, agO a)]) wx ∧ w.heap.size < B))
      case first =>
        go_region_held3 (fun W' => Hid (SB w [(R, rfO (a.lo + a.hi + (a.c - 2) * a.lo)), (P, rfO (a.lo + a.hi)), (w.heap.size, agO a)] W') ∧ W'.cell? ⟨P, 0, none⟩ = some (.bool (decide ((a.lo + a.hi) < 0))) ∧ W'.cell? ⟨P, 1, none⟩ = some (.int .u64 (nhi (a.lo + a.hi))) ∧ W'.cell? ⟨P, 2, none⟩ = some (.int .u64 (nlo (a.lo + a.hi))) ∧ W'.cell? ⟨w.heap.size, 0, none⟩ = some (.int .i64 a.c) ∧ W'.cell? ⟨w.heap.size, 3, none⟩ = some (.int .i64 a.hi))
          ((refine keep9 ?_; repeat (first | exact HA.out | apply SB.drew | apply SB.alloc | (refine SB.setCell ?_ _ ?_ ?_ _; rotate_left; ((try simp) <;> omega); ((try simp) <;> omega)))))
          (first
            | (go_at_call 51; refine (rtimes_any _ _ ?_ ?_ _).mono ?_; (first | exact hc2); (first | exact hlo | exact hhi); rintro e v1 ⟨rfl, hf⟩; have HA := hid (SB.step (by repeat (first | exact HA.out | apply SB.drew | apply SB.alloc)) hf); (try (have HZ := hid (RwAt.fr (by first | exact HZ.out | exact HZ.out.drew | exact RwAt.new _ _ _ _ _ rfl | exact RwAt.drew (RwAt.new _ _ _ _ _ rfl)) hf (fun h => h)); have hzc := HZ.out.cells; obtain ⟨z0, z1, z2, z3⟩ := hzc)); (have hl0 := lt_of_block (HA.out.1 (R, rfO (a.lo + a.hi + (a.c - 2) * a.lo)) (by simp)); have hl1 := lt_of_block (HA.out.1 (P, rfO (a.lo + a.hi)) (by simp)); have hl2 := lt_of_block (HA.out.1 (w.heap.size, agO a) (by simp)); simp only at hl0 hl1 hl2); clear hf; unfold refV)
            | (go_at_call 49; refine (rplus_any _ _ ?_ ?_ _).mono ?_; (first | exact r3); (first | exact r5); rintro e v1 ⟨rfl, hf⟩; have HA := hid (SB.step (by repeat (first | exact HA.out | apply SB.drew | apply SB.alloc)) hf); (try (have HZ := hid (RwAt.fr (by first | exact HZ.out | exact HZ.out.drew | exact RwAt.new _ _ _ _ _ rfl | exact RwAt.drew (RwAt.new _ _ _ _ _ rfl)) hf (fun h => h)); have hzc := HZ.out.cells; obtain ⟨z0, z1, z2, z3⟩ := hzc)); (have hl0 := lt_of_block (HA.out.1 (R, rfO (a.lo + a.hi + (a.c - 2) * a.lo)) (by simp)); have hl1 := lt_of_block (HA.out.1 (P, rfO (a.lo + a.hi)) (by simp)); have hl2 := lt_of_block (HA.out.1 (w.heap.size, agO a) (by simp)); simp only at hl0 hl1 hl2); clear hf; unfold refV))
        all_goals (go_wp2_with fail)
        all_goals go_meet
        all_goals refine ⟨_, rfl, hid ⟨SB.more ?_ (by first | exact HZ.out.set _ _ _ | exact RwAt.new _ _ _ _ _ rfl), (by omega)⟩⟩
        all_goals (repeat (first | exact HA.out | apply SB.drew | apply SB.alloc | (refine SB.setCell ?_ _ ?_ ?_ _; rotate_left; ((try simp) <;> omega); ((try simp) <;> omega))))
      case rest =>
        obtain ⟨T, rfl, HT⟩ := hcut
        clear HA hl0 hk0 hk1
        obtain ⟨HA, hT⟩ := HT.out
        have HA := hid HA
        clear HT
        have EX : Hid (decide ((a.c - 2) * a.lo + a.lo + a.hi ≤ a.s ∧ a.s ≤ (a.c - 2) * a.hi + a.lo + a.hi) = (decide (a.lo + a.hi + (a.c - 2) * a.lo ≤ a.s) && decide (a.s ≤ a.lo + a.hi + (a.c - 2) * a.hi))) := by
          show _ = _
          rw [Bool.eq_iff_iff]
          simp
          omega
        have hwf := HA.out.2
        obtain ⟨r0, r1', r2'⟩ := sb_wide HA.out (B := R) (x := a.lo + a.hi + (a.c - 2) * a.lo) (by simp)
        obtain ⟨s0, s1, s2⟩ := sb_wide HA.out (B := T) (x := a.lo + a.hi + (a.c - 2) * a.hi) (by simp)
        have n1 := (sb_pick HA.out (a := a) (B := w.heap.size) (by simp)).2.1
        have HSB : Hid (SB w [(T, rfO (a.lo + a.hi + (a.c - 2) * a.hi)), (R, rfO (a.lo + a.hi + (a.c - 2) * a.lo)), (w.heap.size, agO a)] wc) := ⟨fun q hq => HA.out.1 q (by simp at hq ⊢; rcases hq with h | h | h <;> simp [h]), hwf⟩
        clear HA hwf
        have HA := HSB
        clear HSB
        generalize a.lo + a.hi + (a.c - 2) * a.lo = X at *
        generalize a.lo + a.hi + (a.c - 2) * a.hi = Y at *
        clear r1 r2 r3 r4 r5 t1 hwr t3 t2 t4 hlo hhi hc2 hT hR hP
        by_cases hX : X ≤ a.s
        · have hXd : decide (X ≤ a.s) = true := by simpa using hX
          have HXD := hid hXd
          clear hX hXd r0 r1' r2' s0 s1 s2 n1
          go_wp2_with fail
          go_region_held3 (fun W' => Hid (SB w [(T, rfO Y), (R, rfO X), (w.heap.size, agO a)] W') ∧ W'.cell? ⟨R, 0, none⟩ = some (.bool (decide (X < 0))) ∧ W'.cell? ⟨R, 1, none⟩ = some (.int .u64 (nhi X)) ∧ W'.cell? ⟨R, 2, none⟩ = some (.int .u64 (nlo X)) ∧ W'.cell? ⟨T, 0, none⟩ = some (.bool (decide (Y < 0))) ∧ W'.cell? ⟨T, 1, none⟩ = some (.int .u64 (nhi Y)) ∧ W'.cell? ⟨T, 2, none⟩ = some (.int .u64 (nlo Y)) ∧ W'.cell? ⟨w.heap.size, 1, none⟩ = some (.int .i64 a.s))
            ((refine keep10 ?_; repeat (first | exact HA.out | apply SB.drew | apply SB.alloc)))
            (first
              | (go_at_call 50; refine (rone_any _ ?_ _).mono ?_; exact hs; rintro e v1 ⟨rfl, hf⟩; have HA := hid (SB.step (by repeat (first | exact HA.out | apply SB.drew | apply SB.alloc)) hf); clear hf; unfold refV)
              | (go_at_call 52; refine (less_any _ _ _).mono ?_; rintro e v1 ⟨rfl, hf⟩; (try rw [HXD.out]); have HA := hid (SB.step (by repeat (first | exact HA.out | apply SB.drew | apply SB.alloc)) hf); clear hf))
          all_goals (go_wp2_with fail)
          all_goals go_ret
          all_goals refine ⟨ret_bool ?_, (SB.step (by repeat (first | exact HA.out | apply SB.drew | apply SB.alloc)) (Fr.refl _ _)).2⟩
          all_goals (rw [EX.out, HXD.out]; simp)
        · have hXd : decide (X ≤ a.s) = false := by simpa using hX
          have HXD := hid hXd
          clear hX hXd
          go_wp2_with fail
          first | go_region_with (first
                | (go_at_call 50; refine (rone_any _ ?_ _).mono ?_; exact hs; rintro e v1 ⟨rfl, hf⟩; have HA := hid (SB.step (by repeat (first | exact HA.out | apply SB.drew | apply SB.alloc)) hf); (try (obtain ⟨r0, r1', r2'⟩ := sb_wide HA.out (B := R) (x := X) (by simp))); clear hf; unfold refV)
                | (go_at_call 52; refine (less_any _ _ _).mono ?_; rintro e v1 ⟨rfl, hf⟩; (try rw [HXD.out]); have HA := hid (SB.step (by repeat (first | exact HA.out | apply SB.drew | apply SB.alloc)) hf); clear hf)) | fail
          all_goals (go_wp2_with fail)
          all_goals go_ret
          all_goals refine ⟨ret_bool ?_, (SB.step (by repeat (first | exact HA.out | apply SB.drew | apply SB.alloc)) (Fr.refl _ _)).2⟩
          all_goals (rw [EX.out, HXD.out]; simp)
set_option maxHeartbeats 1000000 in
theorem rright_any (a : Ag) (ha : a.ok) (w : World) :
    Calls Try.prog 19 #[.agg #[.int .i64 a.c, .int .i64 a.s, .int .i64 a.lo, .int .i64 a.hi]] w fun e w' =>
      e = .returned (.bool (rightB a.c a.s a.lo a.hi)) ∧ Fr w w' (fun _ => False) := by
  by_cases h1 : a.c < 0
  · have hr : rightB a.c a.s a.lo a.hi = false := by unfold rightB; rw [if_pos (by omega)]; simp; omega
    rw [hr]
    have t1 : a.c ≤ 0 := by omega
    have t2 : ¬ a.c = 0 := by omega
    clear hr h1
    go_enter Try.func19, Try.ntmps19
    go_wp2
    all_goals (go_ret; exact ⟨rfl, alloc_fr _ _ _⟩)
  by_cases h2 : a.c = 0
  · have hr : rightB a.c a.s a.lo a.hi = decide (a.s = 0 ∧ a.lo = 0 ∧ a.hi = 0) := by unfold rightB; rw [if_pos (by omega), h2]; simp
    rw [hr, h2]
    clear hr h1 h2 ha
    go_enter Try.func19, Try.ntmps19
    go_wp2
    all_goals (go_ret; refine ⟨ret_bool ?_, alloc_fr _ _ _⟩; simp [*])
  by_cases h3 : a.c = 1
  · have hr : rightB a.c a.s a.lo a.hi = decide (a.s = a.lo ∧ a.s = a.hi) := by unfold rightB; rw [if_neg (by omega), if_pos h3]
    rw [hr, h3]
    clear hr h1 h2 h3 ha
    by_cases h4 : a.s = a.lo
    · have h4b : (a.s == a.lo) = true := by simpa using h4
      have H4 := hid h4
      clear h4
      go_enter Try.func19, Try.ntmps19
      go_wp2
      all_goals (go_ret; refine ⟨ret_bool ?_, alloc_fr _ _ _⟩)
      all_goals (have := H4.out; rw [Bool.eq_iff_iff]; simp; try omega)
    · have h4b : (a.s == a.lo) = false := by simpa using h4
      have H4 := hid h4
      clear h4
      go_enter Try.func19, Try.ntmps19
      go_wp2
      all_goals (go_ret; refine ⟨ret_bool ?_, alloc_fr _ _ _⟩)
      all_goals (have := H4.out; rw [eq_comm, decide_eq_false_iff_not]; omega)
  have hc : ¬ a.c ≤ 0 := by omega
  have hr : rightB a.c a.s a.lo a.hi = decide (a.lo ≤ a.hi ∧ (a.c - 2) * a.lo + a.lo + a.hi ≤ a.s ∧ a.s ≤ (a.c - 2) * a.hi + a.lo + a.hi) := by unfold rightB; rw [if_neg hc, if_neg h3]
  by_cases h4 : a.lo ≤ a.hi
  · rw [hr]
    refine (refSum_any a ha (by omega) h4 w).mono fun e w' ⟨he, hf⟩ => ⟨?_, hf⟩
    rw [he]
    exact ret_bool (by rw [Bool.eq_iff_iff]; simp [h4])
  · have hr2 : rightB a.c a.s a.lo a.hi = false := by rw [hr, decide_eq_false_iff_not]; omega
    rw [hr2]
    have t4 : a.hi < a.lo := by omega
    have h6 : (a.c == 0) = false := by simpa using h2
    have h7 : (a.c == 1) = false := by simpa using h3
    clear hr hr2 h2 h3 h4
    go_enter Try.func19, Try.ntmps19
    go_wp2
    go_ret
    exact ⟨rfl, alloc_fr _ _ _⟩

end Go.Proofs.Ytbhhpkbiflolfaa.A
