/- net: the document's net: New: a walk; both nets side by side. -/
import Derived.Test.YtljkbnjdciljfaaNRefB
namespace Go.Proofs.Ytljkbnjdciljfaa
open Go.RowKit

theorem infoConn : (Try.prog.info? 99).map (fun i => (i.zero, i.size, i.bytes)) = some (some (.agg #[.bool false, .bool false, .bool false, .slice none 0 0, .slice none 0 0, .slice none 0 0, .slice none 0 0]), 7, 104) := by kernel_rfl
def zc7 : Nat → Value := fun j => if j < 3 then .bool false else .slice none 0 0
theorem conn_row {w : World} {base g : Nat} (h : w.ownsRow base 99 7 (.slice (some ⟨g, 0, none⟩) 65 65) 65 (madeCells (Value.agg #[.bool false, .bool false, .bool false, .slice none 0 0, .slice none 0 0, .slice none 0 0, .slice none 0 0]).cells (65 * 7)).toList) : LB w g (fun _ j => zc7 j) := by
  rcases h.2 with ⟨h', _⟩ | ⟨g', cap', cur, h', _, hg, _, _, hcs, htake⟩
  · simp at h'
  · simp only [Value.slice.injEq, Option.some.injEq, Addr.mk.injEq, and_true, true_and] at h'
    obtain ⟨rfl, rfl⟩ := h'
    have e : cur.toList = (madeCells #[Value.bool false, .bool false, .bool false, .slice none 0 0, .slice none 0 0, .slice none 0 0, .slice none 0 0] (65 * 7)).toList := by
      rw [← show (Value.agg #[.bool false, .bool false, .bool false, .slice none 0 0, .slice none 0 0, .slice none 0 0, .slice none 0 0]).cells = #[Value.bool false, .bool false, .bool false, .slice none 0 0, .slice none 0 0, .slice none 0 0, .slice none 0 0] from rfl, ← htake, List.take_of_length_le (by simp; omega)]
    refine ⟨cur, hg, fun i j hi hj => ?_⟩
    rw [← Array.getElem?_toList, e, Array.getElem?_toList]
    have hij : i * 7 + j < 65 * 7 := by omega
    have hmod : (i * 7 + j) % 7 = j := by omega
    have h7 : j = 0 ∨ j = 1 ∨ j = 2 ∨ j = 3 ∨ j = 4 ∨ j = 5 ∨ j = 6 := by omega
    simp only [madeCells]
    generalize i * 7 + j = k at *
    rcases h7 with rfl | rfl | rfl | rfl | rfl | rfl | rfl <;> simp [hij, hmod, zc7] <;> omega
set_option maxHeartbeats 4000000 in
set_option maxRecDepth 100000 in
theorem rnew_ok {w : World} (W : World) {a b : Nat} (ha : 1 ≤ a ∧ a ≤ 131072) (hb : 1 ≤ b ∧ b ≤ 131072) (hs : w.heap.size ≤ W.heap.size) : Calls Try.prog 12 #[.int .i64 (a : Int), .int .i64 (b : Int)] W fun e w' => ∃ g : Rx, e = .returned (.tuple #[.pointer (some ⟨g.G, 0, none⟩), .int .i64 0]) ∧ RN w' w.heap.size g (np0 a b) ∧ (∀ k, g.ow k → W.heap.size ≤ k) ∧ Fr W w' (fun _ => False) := by
  obtain ⟨i0, hi, hz0, hz1, hz2⟩ := info_parts infoConn
  have a1 : (1 : Int) ≤ (a : Int) := by omega
  have a2 : (a : Int) ≤ 131072 := by omega
  have b1 : (1 : Int) ≤ (b : Int) := by omega
  have b2 : (b : Int) ≤ 131072 := by omega
  have HWF := hid (wf_new ha hb)
  clear ha hb
  go_enter Try.func12, Try.ntmps12
  go_wp2_with (at_make; go_must (refine wpList_make_full _ rfl (.const (.int .i64 65)) (.const (.int .i64 65)) 71 rfl W.heap.size 99 i0 _ 7 Try.underlying71 hi hz0 hz1 .i64 .i64 _ _ 65 rfl rfl rfl rfl (by rw [hz2]; omega) (by unfold maxLen; omega) (Nat.le_refl _) ?_))
  intro w2 hown hgr
  have HL := hid (conn_row hown)
  have HF := hid (Fr.grown (Fr.refl W (fun _ => False)) hgr (fun k _ e => by cases e))
  clear hown hgr
  have hL := HL.out.lt
  have HN : Hid ((w2.alloc (.cells #[.int .i64 (a : Int), .int .i64 (b : Int), .slice (some ⟨W.heap.size, 0, none⟩) 65 65, .int .i64 0] 73)).heap[w2.heap.size]? = some (.cells (netC (np0 a b) W.heap.size) 73 (0, 0))) := heap_alloc_new _ _
  have HF2 := hid (HF.out.alloc (.cells #[.int .i64 (a : Int), .int .i64 (b : Int), .slice (some ⟨W.heap.size, 0, none⟩) 65 65, .int .i64 0] 73))
  have HL2 := hid (HL.out.fr (alloc_fr w2 (.cells #[.int .i64 (a : Int), .int .i64 (b : Int), .slice (some ⟨W.heap.size, 0, none⟩) 65 65, .int .i64 0] 73) (fun _ => False)) (fun h => h))
  clear HL
  go_wp2_with fail
  go_ret2
  have hz : ∀ i, cOf (np0 a b) i = cp0 := fun i => rfl
  refine ⟨⟨w2.heap.size, W.heap.size, fun _ j => zc7 j⟩, rfl, ⟨HN.out, HL2.out, fun i hi => rfl, fun i hi => rfl, fun i hi => rfl, fun i j hi h3 h7 => ?_, HWF.out, ?_⟩, fun k hk => ?_, HF2.out⟩
  · show Rw _ _ _ (zc7 j) (lst cp0 j)
    have e1 : zc7 j = .slice none 0 0 := by unfold zc7; rw [if_neg (by omega)]
    have e2 : lst cp0 j = [] := by unfold lst cp0; split <;> (try split) <;> (try split) <;> rfl
    rw [e1, e2]
    exact Rw.nil _ _ _
  · have z1 := HF.out.size
    have z2 := HF2.out.size
    exact ⟨by show w.heap.size ≤ w2.heap.size; omega, hs, by omega⟩
  · rcases hk with rfl | rfl | ⟨i, j, hi, h3, h7, hk⟩
    · exact HF.out.size
    · exact Nat.le_refl _
    · have e1 : zc7 j = .slice none 0 0 := by unfold zc7; rw [if_neg (by omega)]
      change (zc7 j).ownBlock = some k at hk
      rw [e1] at hk
      simp [Value.ownBlock] at hk
theorem rnew_bad (w : World) (a b : Int) (hab : ¬ (1 ≤ a ∧ a ≤ 131072) ∨ ¬ (1 ≤ b ∧ b ≤ 131072)) : Calls Try.prog 12 #[.int .i64 a, .int .i64 b] w fun e w' => e = .returned (.tuple #[.pointer none, .int .i64 1]) ∧ w' = w := by
  by_cases h1 : a < 1
  · go_enter Try.func12, Try.ntmps12
    go_wp2
    go_ret2
    exact ⟨rfl, rfl⟩
  · by_cases h2 : 131072 < a
    · go_enter Try.func12, Try.ntmps12
      go_wp2
      go_ret2
      exact ⟨rfl, rfl⟩
    · by_cases h3 : b < 1
      · go_enter Try.func12, Try.ntmps12
        go_wp2
        go_ret2
        exact ⟨rfl, rfl⟩
      · have h4 : 131072 < b := by omega
        go_enter Try.func12, Try.ntmps12
        go_wp2
        go_ret2
        exact ⟨rfl, rfl⟩
end Go.Proofs.Ytljkbnjdciljfaa
