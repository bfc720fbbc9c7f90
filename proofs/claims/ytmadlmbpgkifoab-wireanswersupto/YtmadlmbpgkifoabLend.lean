/- The law's Lend and Back: walks. -/
import Derived.Test.YtmadlmbpgkifoabWmore
import Derived.Laws.CopyOwn
namespace Go.Proofs.Ytmadlmbpgkifoab
open Go.RowKit

/-- Block g holds just these bytes. -/
def Row (w : World) (g : Nat) (xs : List Nat) : Prop := w.heap[g]? = some (.cells (by8 xs).toArray 5 (0, 0))

theorem Row.lt {w : World} {g : Nat} {xs : List Nat} (h : Row w g xs) : g < w.heap.size := lt_of_block h
theorem Row.fr {w w' : World} {S : Nat → Prop} {g : Nat} {xs : List Nat} (h : Row w g xs) (hf : Fr w w' S) (hS : ¬ S g) : Row w' g xs := by
  unfold Row
  rw [hf.block g h.lt hS]
  exact h
theorem Row.free {w : World} {g : Nat} {xs : List Nat} (h : Row w g xs) (o : Nat) : w.frozen? ⟨g, o, none⟩ = false := by
  have h' : w.heap[g]? = some (.cells (by8 xs).toArray 5 (0, 0)) := h
  simp [World.frozen?, h']
theorem Row.cell {w : World} {g : Nat} {xs : List Nat} (h : Row w g xs) (j : Nat) (hj : j < xs.length) : w.cell? ⟨g, j, none⟩ = some (.int .u8 ((xs.getD j 0 : Nat) : Int)) := by
  rw [cell_of_row w g j _ _ (0, 0) h]
  have := by8_get xs j hj
  simpa using this
theorem Row.ofOwn {w : World} {base g n : Nat} {xs : List Nat} (h : w.ownsRow base 5 1 (.slice (some ⟨g, 0, none⟩) n n) n (by8 xs)) : Row w g xs := by
  rcases h.2 with ⟨h', _⟩ | ⟨g', cap', cur, h', _, hg, _, _, hcs, htake⟩
  · simp at h'
  · simp only [Value.slice.injEq, Option.some.injEq, Addr.mk.injEq, and_true, true_and] at h'
    obtain ⟨rfl, rfl⟩ := h'
    have e : cur.toList = by8 xs := by rw [← htake, List.take_of_length_le (by simp; omega)]
    unfold Row
    rw [hg, ← e]
/-- The first ones of a row, as a slice. -/
theorem Row.bs {w : World} {g cap : Nat} {xs ys : List Nat} (h : Row w g (xs ++ ys)) : Bs w (.slice (some ⟨g, 0, none⟩) xs.length cap) xs := by
  refine Or.inr ⟨⟨g, 0, none⟩, cap, rfl, fun j u hu => ?_⟩
  have hj : j < xs.length := by
    rcases Nat.lt_or_ge j xs.length with h | h
    · exact h
    · simp [List.getElem?_eq_none (show (by8 xs).length ≤ j by rw [by8_length]; exact h)] at hu
  rw [Addr.add_lit, Nat.zero_add, h.cell j (by simp; omega)]
  rw [by8_get xs j hj] at hu
  rw [← hu]
  simp [List.getD, List.getElem?_append_left hj]
theorem Row.own {w : World} {base g : Nat} {xs : List Nat} (h : Row w g xs) (hb : base ≤ g) (hm : xs.length ≤ 140737488355328 + 67) : w.ownsRow base 5 1 (.slice (some ⟨g, 0, none⟩) xs.length xs.length) xs.length (by8 xs) :=
  ⟨by rw [by8_length, Nat.mul_one], Or.inr ⟨g, xs.length, _, rfl, hb, h, Nat.le_refl _, by unfold maxLen; omega, by simp [by8_length], by rw [Nat.mul_one]; exact List.take_of_length_le (by simp [by8_length])⟩⟩
theorem Row.set {w : World} {g : Nat} {xs : List Nat} (h : Row w g xs) (j c : Nat) : Row (w.setCell ⟨g, j, none⟩ (.int .u8 (c : Int))) g (xs.set j c) := by
  unfold Row
  rw [heap_setCell_same w g j _ _ _ h]
  congr 2
  apply Array.ext'
  simp [by8]

theorem by8_replicate (n c : Nat) : by8 (List.replicate n c) = List.replicate n (.int .u8 (c : Int)) := by simp [by8]

theorem set_step (xs : List Nat) (k c : Nat) (hk : k < 67) : (xs ++ List.replicate k c ++ List.replicate (67 - k) 0).set (xs.length + k) c = xs ++ List.replicate (k + 1) c ++ List.replicate (67 - (k + 1)) 0 := by
  have e : 67 - k = (67 - (k + 1)) + 1 := by omega
  rw [e, List.replicate_succ, List.set_append_right _ _ (by simp), List.replicate_succ']
  simp

theorem splice_lend (xs : List Nat) : splice (by8 (List.replicate (xs.length + 67) 0)) 0 (by8 xs) = by8 (xs ++ List.replicate 67 0) := by
  rw [splice, by8_append, by8_replicate, by8_replicate, by8_length]
  simp

set_option maxHeartbeats 800000 in
set_option maxRecDepth 100000 in
theorem lend_any (sv : Value) (xs : List Nat) (w : World) (hs : Bs w sv xs) (hl : xs.length ≤ 140737488355328) :
    Calls Try.prog 15 #[sv] w fun e w' => e = .returned (.slice (some ⟨w.heap.size, 0, none⟩) xs.length (xs.length + 67)) ∧ Row w' w.heap.size (xs ++ List.replicate 67 169) ∧ Fr w w' (fun _ => False) := by
  obtain ⟨i0, hi, hz0, hz1, hz2⟩ := info_parts Try.info5
  have Hs : Hid (Bs w sv xs) := hs
  obtain ⟨ao, cap, rfl⟩ : ∃ ao cap, sv = .slice ao xs.length cap := by
    rcases hs with ⟨rfl, rfl⟩ | ⟨a, cap, rfl, _⟩
    · exact ⟨_, _, rfl⟩
    · exact ⟨_, _, rfl⟩
  clear hs
  go_enter Try.func15, Try.ntmps15
  go_wp2_with (first
    | (at_make; go_must (refine wpList_make_full _ rfl (.tmp 7) (.tmp 7) 24 rfl w.heap.size 5 i0 (.int .u8 0) 1 Try.underlying24 hi hz0 hz1 .i64 .i64 _ _ (xs.length + 67) rfl rfl (by omega) (by omega) (by rw [hz2]; omega) (by unfold maxLen; omega) (Nat.le_refl _) ?_); intro w1 hown1 hgrow1; have HR1 : Hid (Row w1 w.heap.size (List.replicate (xs.length + 67) 0)) := (by refine Row.ofOwn (base := w.heap.size) (n := xs.length + 67) ?_; rw [by8_replicate]; rw [Nat.mul_one, show (Value.int IntKind.u8 0).cells = #[.int .u8 0] from rfl, toList_madeCells_one] at hown1; exact hown1); have HB1 : Hid (Below w.heap.size w w1) := ((Below.refl w.heap.size w).grown hgrow1 (Nat.le_refl _) (fun k h => by cases h)); clear hown1 hgrow1)
    | (refine wpList_copy_splice rfl (.tmp 9) (.tmp 10) 24 24 rfl 5 Try.underlying24 (by rw [hi]; simp [hz1]) _ _ _ _ _ _ rfl rfl w.heap.size 0 (by8 (List.replicate (xs.length + 67) 0)) 5 HR1.out (by8 xs) ?c1 ?c2 ?c3 (by8_one xs) w.heap.size w HB1.out (Nat.le_refl _) ?_))
  case c1 => rw [by8_length]; exact (Nat.min_eq_left (by omega)).symm
  case c2 =>
    intro h0
    rcases Hs.out with ⟨_, rfl⟩ | ⟨a, cap', he, hcells⟩
    · simp [by8] at h0
    · simp only [Value.slice.injEq] at he
      refine ⟨a, he.1, fun j v hv => ?_⟩
      have hc := hcells j v hv
      rw [HB1.out.cell (World.block_lt_of_cell? w _ hc)]
      exact hc
  case c3 => simp [by8_length]
  intro w2 HG2 hB2
  have HR2 : Hid (Row w2 w.heap.size (xs ++ List.replicate 67 0)) := by
    have h := HG2.out
    rw [splice_lend] at h
    exact h
  have HB2 : Hid (Below w.heap.size w w2) := hB2
  clear HG2 hB2 HR1 HB1 Hs
  go_wp2_with fail
  go_loopw [4] (fun i wr => ∃ k : Nat, k ≤ 67 ∧ i = .int .i64 ((xs.length + k : Nat) : Int) ∧ Hid (Row wr w.heap.size (xs ++ List.replicate k 169 ++ List.replicate (67 - k) 0)) ∧ Hid (Below w.heap.size w wr)) (fun i _ => xs.length + 67 - (intOf i).toNat)
  case atStart => exact ⟨0, by omega, by go_num, by simpa using HR2, HB2⟩
  case round =>
    obtain ⟨k, hk, rfl, HR, HB⟩ := hrel
    by_cases hlt : k < 67
    · have hcell := HR.out.cell (xs.length + k) (by simp; omega)
      have hfree := HR.out.free (xs.length + k)
      have HN : Hid (Row (wr.setCell ⟨w.heap.size, xs.length + k, none⟩ (.int .u8 169)) w.heap.size (xs ++ List.replicate (k + 1) 169 ++ List.replicate (67 - (k + 1)) 0)) := by
        have := HR.out.set (xs.length + k) 169
        rw [set_step xs k 169 hlt] at this
        exact this
      have HN2 : Hid (Below w.heap.size w (wr.setCell ⟨w.heap.size, xs.length + k, none⟩ (.int .u8 169))) := HB.out.setCell (Nat.le_refl _) _
      have h1 : (0 : Int) ≤ (xs.length : Int) + (k : Int) := by omega
      have h2 : (xs.length : Int) + (k : Int) < (xs.length : Int) + 67 := by omega
      clear HR HB
      go_wp2
      exact ⟨⟨k + 1, by omega, by go_num, HN, HN2⟩, by simp [intOf]; omega⟩
    · obtain rfl : k = 67 := by omega
      go_wp2
      go_ret
      exact ⟨rfl, by simpa using HR.out, Fr.ofBelow HB.out⟩

theorem getD_reps (xs : List Nat) (m k : Nat) (hk : k < m) : (xs ++ List.replicate m 169).getD (xs.length + k) 0 = 169 := by
  simp [List.getD, hk]
theorem getD_back (xs : List Nat) (k : Nat) (hk : k < 67) : (xs ++ List.replicate 67 169).getD (xs.length + k) 0 = 169 := getD_reps xs 67 k hk

set_option maxHeartbeats 800000 in
set_option maxRecDepth 100000 in
theorem back_any (g : Nat) (bv : Value) (xs : List Nat) (w : World) (hr : Row w g (xs ++ List.replicate 67 169)) (hb : Bs w bv xs) (hl : xs.length ≤ 140737488355328) :
    Calls Try.prog 31 #[.slice (some ⟨g, 0, none⟩) xs.length (xs.length + 67), bv] w fun e w' => e = .returned (.bool true) ∧ Fr w w' (fun k => k = g) := by
  obtain ⟨ao, cap, rfl⟩ : ∃ ao cap, bv = .slice ao xs.length cap := by
    rcases hb with ⟨rfl, rfl⟩ | ⟨a, cap, rfl, _⟩
    · exact ⟨_, _, rfl⟩
    · exact ⟨_, _, rfl⟩
  have hc1 := run_str8 Try.underlying24 Try.underlying5 Try.underlying9 (hr.bs (cap := xs.length + 67))
  have hc2 := run_str8 Try.underlying24 Try.underlying5 Try.underlying9 hb
  have HR : Hid (Row w g (xs ++ List.replicate 67 169)) := hr
  generalize str8 xs = S at hc1 hc2
  clear hr hb
  go_enter Try.func31, Try.ntmps31
  go_wp2_with fail
  clear hc1 hc2
  go_loop [5, 7] (fun ok i => ∃ k : Nat, k ≤ 67 ∧ ok = .bool true ∧ i = .int .i64 ((xs.length + k : Nat) : Int)) (fun _ i => xs.length + 67 - (intOf i).toNat)
  case atStart => exact ⟨0, by omega, rfl, by go_num⟩
  case round =>
    obtain ⟨k, hk, rfl, rfl⟩ := hrel
    by_cases hlt : k < 67
    · have hcell := HR.out.cell (xs.length + k) (by simp; omega)
      rw [getD_back xs k hlt] at hcell
      have h1 : (0 : Int) ≤ (xs.length : Int) + (k : Int) := by omega
      have h2 : (xs.length : Int) + (k : Int) < (xs.length : Int) + 67 := by omega
      go_wp2
      exact ⟨⟨k + 1, by omega, rfl, by go_num⟩, by simp [intOf]; omega⟩
    · obtain rfl : k = 67 := by omega
      go_wp2_with fail
      go_loopw [8] (fun i wr => ∃ k : Nat, k ≤ xs.length + 67 ∧ i = .int .i64 (k : Int) ∧ Hid (∃ ys, ys.length = xs.length + 67 ∧ Row wr g ys) ∧ Hid (Fr w wr (fun k => k = g))) (fun i _ => xs.length + 67 - (intOf i).toNat)
      case atStart => exact ⟨0, by omega, rfl, ⟨_, by simp, HR.out⟩, Fr.refl _ _⟩
      case round =>
        obtain ⟨k, hk2, rfl, HY, HF⟩ := hrel
        by_cases hlt2 : k < xs.length + 67
        · obtain ⟨ys, hyl, hY⟩ := HY.out
          have hcell := hY.cell k (by omega)
          have hfree := hY.free k
          have HN : Hid (∃ ys, ys.length = xs.length + 67 ∧ Row (wr.setCell ⟨g, k, none⟩ (.int .u8 94)) g ys) := ⟨_, by simpa using hyl, hY.set k 94⟩
          have HN2 : Hid (Fr w (wr.setCell ⟨g, k, none⟩ (.int .u8 94)) (fun k => k = g)) := Fr.setCell (S := fun k => k = g) HF.out (fun _ => rfl) _
          have h2 : (k : Int) < (xs.length : Int) + 67 := by omega
          clear HY HF hY hyl
          go_wp2
          exact ⟨⟨k + 1, by omega, by go_num, HN, HN2⟩, by simp [intOf]; omega⟩
        · go_wp2
          go_ret
          exact ⟨rfl, HF.out⟩
end Go.Proofs.Ytmadlmbpgkifoab
