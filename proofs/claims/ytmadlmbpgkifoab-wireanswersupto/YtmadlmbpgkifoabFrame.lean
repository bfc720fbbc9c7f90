/- Frame, the program's and the document's: walks. -/
import Derived.Test.YtmadlmbpgkifoabLend
namespace Go.Proofs.Ytmadlmbpgkifoab
open Go.RowKit

/-- A frame's head and its body. -/
def headB (n : Nat) : List Nat := [n / 16777216 % 256, n / 65536 % 256, n / 256 % 256, n % 256]
def frameB (xs : List Nat) : List Nat := headB xs.length ++ xs
theorem frameB_length (xs : List Nat) : (frameB xs).length = 4 + xs.length := by simp [frameB, headB]; omega

/-- What Frame leaves: the bytes in new memory and OK (0), or nothing and 14. -/
def FramePost (w : World) (xs : List Nat) (e : Ending) (w' : World) : Prop :=
  ∃ v', Fr w w' (fun _ => False) ∧ ((1 ≤ xs.length ∧ xs.length ≤ 65536 ∧ e = .returned (.tuple #[v', .int .i64 0]) ∧ w'.ownsRow w.heap.size 5 1 v' (frameB xs).length (by8 (frameB xs))) ∨
    (¬ (1 ≤ xs.length ∧ xs.length ≤ 65536) ∧ v' = .slice none 0 0 ∧ e = .returned (.tuple #[v', .int .i64 14])))

theorem slice_shape {w : World} {sv : Value} {xs : List Nat} (hs : Bs w sv xs) : ∃ ao cap, sv = .slice ao xs.length cap := by
  rcases hs with ⟨rfl, rfl⟩ | ⟨a, cap, rfl, _⟩
  · exact ⟨_, _, rfl⟩
  · exact ⟨_, _, rfl⟩

theorem Bs.addr {w : World} {ao : Option Addr} {n cap : Nat} {xs : List Nat} (hs : Bs w (.slice ao n cap) xs) (h : 1 ≤ xs.length) : ∃ a, ao = some a ∧ ∀ j u, (by8 xs)[j]? = some u → w.cell? (a.add j) = some u := by
  rcases hs with ⟨_, rfl⟩ | ⟨a, cap', he, hc⟩
  · simp at h
  · simp only [Value.slice.injEq] at he
    exact ⟨a, he.1, hc⟩

theorem cells_keep {w w' : World} {a : Addr} {xs : List Nat} {S : Nat → Prop} (h : ∀ j u, (by8 xs)[j]? = some u → w.cell? (a.add j) = some u) (hf : Fr w w' S) (hS : ¬ S a.block) : ∀ j u, (by8 xs)[j]? = some u → w'.cell? (a.add j) = some u := by
  intro j u hu
  have hc := h j u hu
  have hlt := World.block_lt_of_cell? w _ hc
  rw [block_of_add] at hlt
  rw [World.cell?_of_block (w := w) (by rw [block_of_add]; exact hf.block _ hlt hS)]
  exact hc

/-- The head as the walk spells it. -/
def headV (n : Nat) : List Value := [.int .u8 ((n : Int) / 16777216), .int .u8 ((n : Int) / 65536), .int .u8 ((n : Int) / 256 % 256), .int .u8 ((n : Int) % 256)]
theorem headV_eq (n : Nat) (h : n ≤ 65536) : headV n = by8 (headB n) := by
  simp only [headV, by8, headB, List.map_cons, List.map_nil]
  rw [show ((n : Int) / 16777216) = ((n / 16777216 % 256 : Nat) : Int) from by omega, show ((n : Int) / 65536) = ((n / 65536 % 256 : Nat) : Int) from by omega,
    show ((n : Int) / 256 % 256) = ((n / 256 % 256 : Nat) : Int) from by omega, show ((n : Int) % 256) = ((n % 256 : Nat) : Int) from by omega]
theorem headV_one (n : Nat) : ∀ u ∈ headV n, u.oneCell' = true := by
  intro u hu
  simp [headV] at hu
  rcases hu with rfl | rfl | rfl | rfl <;> rfl
theorem cells_newL (w : World) (L : List Value) (e : TypeId) : ∀ (j : Nat) (u : Value), L[j]? = some u → (w.alloc (.cells L.toArray e)).cell? ((⟨w.heap.size, 0, none⟩ : Addr).add j) = some u := by
  intro j u hj
  rw [Addr.add_lit, Nat.zero_add, cell_of_row _ w.heap.size j L.toArray e (0, 0) (heap_alloc_new w _)]
  simpa using hj

set_option maxHeartbeats 800000 in
set_option maxRecDepth 100000 in
theorem frame_any (sv : Value) (xs : List Nat) (w : World) (hs : Bs w sv xs) (hl : xs.length ≤ 140737488355328) :
    Calls Try.prog 24 #[sv] w fun e w' => FramePost w xs e w' := by
  obtain ⟨i0, hi, hz0, hz1, hz2⟩ := info_parts Try.info5
  obtain ⟨ao, cap, rfl⟩ := slice_shape hs
  have Hs : Hid (Bs w (.slice ao xs.length cap) xs) := hs
  clear hs
  by_cases h1 : 1 ≤ xs.length
  · by_cases h2 : xs.length ≤ 65536
    · obtain ⟨a, rfl, hcells⟩ := Hs.out.addr h1
      have HC : Hid (∀ j u, (by8 xs)[j]? = some u → w.cell? (a.add j) = some u) := hcells
      clear hcells
      have t1 : ¬ (xs.length : Int) < 1 := by omega
      have t2 : ¬ (65536 : Int) < (xs.length : Int) := by omega
      go_enter Try.func24, Try.ntmps24
      go_wp2_with (at_make; go_must (refine wpList_make_own _ rfl _ (.tmp 15) 24 rfl w.heap.size 5 i0 (.int .u8 0) 1 Try.underlying24 hi hz0 hz1 .i64 .i64 _ (4 + xs.length) rfl rfl (by omega) (by rw [hz2]; omega) (by unfold maxLen; omega) (Nat.le_refl _) ?_))
      intro w1 hown1 hgrow1
      have HF1 : Hid (Fr w w1 (fun _ => False)) := (Fr.refl w (fun _ => False)).grown hgrow1 (fun k _ h => by cases h)
      have hsz1 : w.heap.size < w1.heap.size := (hown1.lt w.heap.size rfl).2
      clear hgrow1
      go_wp2_with (at_builtin; go_must (refine wpList_append_fits _ rfl (.tmp 17) (.tmp 29) 24 rfl w.heap.size 5 i0 1 Try.underlying24 hi hz1 w.heap.size 0 (4 + xs.length) [] rfl (hown1.alloc _) ⟨w1.heap.size, 0, none⟩ 4 4 (headV xs.length) rfl rfl (cells_newL w1 (headV xs.length) 5) (headV_one _) (by omega) ?_))
      intro w2 hown2 hgrow2
      rw [headV_eq xs.length h2] at hown2
      have HF2 : Hid (Fr w w2 (fun _ => False)) := (HF1.out.alloc _).grown hgrow2 (fun k hk h => by cases h; omega)
      have HC2 : Hid (∀ j u, (by8 xs)[j]? = some u → w2.cell? (a.add j) = some u) := cells_keep HC.out HF2.out (fun h => h)
      clear hgrow2 hown1 HC HF1
      go_wp2_with (at_builtin; go_must (refine wpList_append_fits _ rfl (.tmp 31) (.tmp 32) 24 rfl w.heap.size 5 i0 1 Try.underlying24 hi hz1 w.heap.size 4 (4 + xs.length) (by8 (headB xs.length)) rfl hown2 a xs.length cap (by8 xs) rfl (by rw [by8_length, Nat.mul_one]) HC2.out (by8_one xs) (Nat.le_refl _) ?_))
      intro w3 hown3 hgrow3
      have HF3 : Hid (Fr w w3 (fun _ => False)) := HF2.out.grown hgrow3 (fun k hk h => by cases h; omega)
      have HO : Hid (w3.ownsRow w.heap.size 5 1 (.slice (some ⟨w.heap.size, 0, none⟩) (4 + xs.length) (4 + xs.length)) (frameB xs).length (by8 (frameB xs))) := by
        show w3.ownsRow w.heap.size 5 1 (.slice (some ⟨w.heap.size, 0, none⟩) (4 + xs.length) (4 + xs.length)) (frameB xs).length (by8 (frameB xs))
        rw [frameB_length, frameB, by8_append]
        exact hown3
      clear hown3 hgrow3 hown2 HF2 HC2
      go_wp2
      go_ret2
      exact ⟨_, HF3.out, Or.inl ⟨h1, h2, rfl, HO.out⟩⟩
    · have t1 : ¬ (xs.length : Int) < 1 := by omega
      have t2 : (65536 : Int) < (xs.length : Int) := by omega
      go_enter Try.func24, Try.ntmps24
      go_wp2
      go_ret2
      exact ⟨_, Fr.refl _ _, Or.inr ⟨by omega, rfl, rfl⟩⟩
  · have t1 : (xs.length : Int) < 1 := by omega
    go_enter Try.func24, Try.ntmps24
    go_wp2
    go_ret2
    exact ⟨_, Fr.refl _ _, Or.inr ⟨by omega, rfl, rfl⟩⟩
end Go.Proofs.Ytmadlmbpgkifoab
