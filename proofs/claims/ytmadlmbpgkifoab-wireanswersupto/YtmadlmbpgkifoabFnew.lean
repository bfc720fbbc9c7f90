/- NewFrames, round; what a frame's head tells: walks and numbers. -/
import Derived.Test.YtmadlmbpgkifoabFnext
import Derived.Test.YtmadlmbpgkifoabFrame
namespace Go.Proofs.Ytmadlmbpgkifoab
open Go.RowKit

theorem beN_headB (n : Nat) (h : n < 4294967296) : beN (headB n) = n := by
  simp [beN, headB]
  omega
theorem headN_frame (xs ys : List Nat) (h : xs.length < 4294967296) : headN (frameB xs ++ ys) = xs.length := by
  rw [headN, frameB, List.append_assoc]
  rw [show (headB xs.length ++ (xs ++ ys)).take 4 = headB xs.length from by simp [headB]]
  exact beN_headB _ h
theorem body_frame (xs ys : List Nat) : ((frameB xs ++ ys).drop 4).take xs.length = xs := by
  rw [frameB, List.append_assoc]
  rw [show (headB xs.length ++ (xs ++ ys)).drop 4 = xs ++ ys from by simp [headB]]
  simp
theorem rest_frame (xs ys : List Nat) : (frameB xs ++ ys).drop (4 + xs.length) = ys := by
  rw [show 4 + xs.length = (frameB xs).length from (frameB_length xs).symm]
  simp
theorem headB_lt (n j : Nat) : (headB n).getD j 0 < 256 := by
  match j with
  | 0 => simp [headB]; omega
  | 1 => simp [headB]; omega
  | 2 => simp [headB]; omega
  | 3 => simp [headB]; omega
  | j + 4 => simp [headB]
theorem frameB_lt {xs : List Nat} (h : ∀ j, xs.getD j 0 < 256) (j : Nat) : (frameB xs).getD j 0 < 256 := getD_append_lt (headB_lt _) h j

theorem round_neg (a n : Int) (hn : 0 < n) (h : a.tmod n < 0) : a.tmod n + n = a % n := by
  have e := Int.tmod_eq_emod (a := a) (b := n)
  have h1 := Int.emod_nonneg a (show n ≠ 0 by omega)
  split at e <;> omega
theorem round_pos (a n : Int) (hn : 0 < n) (h : ¬ a.tmod n < 0) : a.tmod n = a % n := by
  have e := Int.tmod_eq_emod (a := a) (b := n)
  have h1 := Int.emod_lt_of_pos a hn
  split at e <;> omega

set_option maxHeartbeats 800000 in
set_option maxRecDepth 100000 in
theorem round_any (a n : Int) (w : World) (hn : 0 < n) (hn2 : n ≤ 1000000000) :
    Calls Try.prog 18 #[.int .i64 a, .int .i64 n] w fun e w' => e = .returned (.int .i64 (a % n)) ∧ w' = w := by
  have hnz : (n == 0) = false := by simp; omega
  have hn1 : (n == -1) = false := by simp; omega
  have hb1 := Int.tmod_lt_of_pos a hn
  have hb2 := Int.lt_tmod_of_pos a hn
  by_cases hneg : a.tmod n < 0
  · have HE := Int.emod_nonneg a (show n ≠ 0 by omega)
    have HP : Hid (a.tmod n + n = a % n) := round_neg a n hn hneg
    clear HE
    go_enter Try.func18, Try.ntmps18
    go_wp2
    go_ret
    exact ⟨congrArg (fun x => Ending.returned (.int .i64 x)) HP.out, rfl⟩
  · have HP : Hid (a.tmod n = a % n) := round_pos a n hn hneg
    go_enter Try.func18, Try.ntmps18
    go_wp2
    go_ret
    exact ⟨congrArg (fun x => Ending.returned (.int .i64 x)) HP.out, rfl⟩

set_option maxHeartbeats 800000 in
set_option maxRecDepth 100000 in
theorem new_ok (most : Nat) (w : World) (h1 : 1 ≤ most) (h2 : most ≤ 65536) :
    Calls Try.prog 25 #[.int .i64 (most : Int)] w fun e w' => e = .returned (.tuple #[.pointer (some ⟨w.heap.size, 0, none⟩), .int .i64 0]) ∧ Fz w' w.heap.size w.heap.size (.slice none 0 0) most [] 0 0 ∧ Fr w w' (fun _ => False) ∧ w.heap.size < w'.heap.size := by
  have t1 : ¬ (most : Int) < 1 := by omega
  have t2 : ¬ (65536 : Int) < (most : Int) := by omega
  go_enter Try.func25, Try.ntmps25
  go_wp2
  go_ret2
  exact ⟨rfl, ⟨heap_alloc_new w _, World.ownsRow_nil _ _ _ _, by simp, by simp, by simp, Nat.le_refl _, by simp⟩, alloc_fr w _ _, by simp⟩

set_option maxHeartbeats 800000 in
set_option maxRecDepth 100000 in
theorem new_bad (most : Int) (w : World) (h1 : most < 1 ∨ 65536 < most) :
    Calls Try.prog 25 #[.int .i64 most] w fun e w' => e = .returned (.tuple #[.pointer none, .int .i64 1]) ∧ w' = w := by
  rcases h1 with h1 | h1
  · go_enter Try.func25, Try.ntmps25
    go_wp2
    go_ret2
    exact ⟨rfl, rfl⟩
  · have t1 : ¬ most < 1 := by omega
    go_enter Try.func25, Try.ntmps25
    go_wp2
    go_ret2
    exact ⟨rfl, rfl⟩
end Go.Proofs.Ytmadlmbpgkifoab
