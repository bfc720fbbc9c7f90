/- table: New, grow, Put: walks. -/
import Derived.Test.YtobigmcklecbnaaTTab3S
namespace Go.Proofs.Ytobigmcklecbnaa.S
open Go.RowKit

theorem Try.info_place : (Try.prog.info? 111).map (fun i => (i.zero, i.size, i.bytes)) = some (some (.agg #[.int .u8 0, .string ⟨#[]⟩, .string ⟨#[]⟩]), 3, 40) := by kernel_rfl
theorem make_any (n : Nat) (hn : n ≤ 1099511627776) (W : World) : (Instr.makeSlice 61 (.int .i64 (n : Int)) (.int .i64 (n : Int))).run Try.prog W = .ok (.slice (some ⟨W.heap.size, 0, none⟩) n n) (W.alloc (.cells (pc (List.replicate n (pz (.string ⟨#[]⟩)))).toArray 111)) := by
  obtain ⟨i0, hi, hz0, hz1, hz2⟩ := info_parts Try.info_place
  have hr := run_make (P := Try.prog) W 61 111 i0 _ Try.underlying61 hi hz0 .i64 .i64 n n (by omega) (Int.le_refl _) (by rw [hz2]; omega) (by omega)
  rw [hr, Int.toNat_natCast, hz1]
  have h3 := pc_rep (.string ⟨#[]⟩) n
  unfold none8 at h3
  rw [← h3]
  rfl

theorem make_arr (n : Nat) (hn : n ≤ 1099511627776) : ∃ arr : Array Value, Hid (arr = (pc (List.replicate n (pz (.string ⟨#[]⟩)))).toArray) ∧ ∀ W : World, (Instr.makeSlice 61 (.int .i64 (n : Int)) (.int .i64 (n : Int))).run Try.prog W = .ok (.slice (some ⟨W.heap.size, 0, none⟩) n n) (W.alloc (.cells arr 111)) := ⟨_, rfl, make_any n hn⟩
theorem arr_row {n : Nat} {arr : Array Value} (h : Hid (arr = (pc (List.replicate n (pz (.string ⟨#[]⟩)))).toArray)) (w : World) : RowG 111 (w.alloc (.cells arr 111)) w.heap.size (List.replicate n (pz (.string ⟨#[]⟩))) [] := by
  unfold RowG
  rw [heap_last _ _ _ rfl, h.out, List.append_nil]

theorem new_any (w : World) :
    Calls Try.prog 9 #[] w fun e w' => e = .returned (.pointer (some ⟨w.heap.size + 1, 0, none⟩)) ∧ TbAt w' (w.heap.size + 1) w.heap.size none (newT (.string ⟨#[]⟩)) ∧ Fr w w' (fun _ => False) ∧ w'.heap.size = w.heap.size + 2 := by
  obtain ⟨arr, HA, hmk⟩ := make_arr 8 (by omega)
  have hm8 : (Instr.makeSlice 61 (.int .i64 8) (.int .i64 8)).run Try.prog w = .ok (.slice (some ⟨w.heap.size, 0, none⟩) 8 8) (w.alloc (.cells arr 111)) := hmk w
  clear hmk
  go_enter Try.func9, Try.ntmps9
  go_wp2_with fail
  go_ret
  have hR := arr_row HA w
  refine ⟨rfl, ⟨⟨_, _, heap_last _ _ _ (by simp), ⟨8, [], rfl, hR.fr (alloc_fr _ _ (fun _ => False)) (fun h => h), by simp [newT]⟩, rfl, rfl⟩, by simp, (new_inv (.string ⟨#[]⟩)).i0, Vok.rep 8, fun i hi => by simp [newT] at hi, by simp [newT]⟩, (alloc_fr w _ _).alloc _, by simp⟩

end Go.Proofs.Ytobigmcklecbnaa.S
