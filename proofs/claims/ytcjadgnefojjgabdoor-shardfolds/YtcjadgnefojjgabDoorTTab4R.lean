/- table: New, grow, Put: walks. -/
import Derived.Test.YtcjadgnefojjgabDoorTTab3R
namespace Go.Proofs.YtcjadgnefojjgabDoor.R
open Go.RowKit

theorem Tryd.info_place : (Tryd.prog.info? 113).map (fun i => (i.zero, i.size, i.bytes)) = some (some (.agg #[.int .u8 0, .string ⟨#[]⟩, .int .i64 0, .string ⟨#[]⟩, .int .i64 0, .pointer none]), 6, 64) := by kernel_rfl
theorem make_any (n : Nat) (hn : n ≤ 1099511627776) (W : World) : (Instr.makeSlice 95 (.int .i64 (n : Int)) (.int .i64 (n : Int))).run Tryd.prog W = .ok (.slice (some ⟨W.heap.size, 0, none⟩) n n) (W.alloc (.cells (pc (List.replicate n (pz (.agg #[.int .i64 0, .string ⟨#[]⟩, .int .i64 0, .pointer none])))).toArray 113)) := by
  obtain ⟨i0, hi, hz0, hz1, hz2⟩ := info_parts Tryd.info_place
  have hr := run_make (P := Tryd.prog) W 95 113 i0 _ Tryd.underlying95 hi hz0 .i64 .i64 n n (by omega) (Int.le_refl _) (by rw [hz2]; omega) (by omega)
  rw [hr, Int.toNat_natCast, hz1]
  have h3 := pc_rep n
  unfold none8 at h3
  rw [← h3]
  rfl

theorem make_arr (n : Nat) (hn : n ≤ 1099511627776) : ∃ arr : Array Value, Hid (arr = (pc (List.replicate n (pz (.agg #[.int .i64 0, .string ⟨#[]⟩, .int .i64 0, .pointer none])))).toArray) ∧ ∀ W : World, (Instr.makeSlice 95 (.int .i64 (n : Int)) (.int .i64 (n : Int))).run Tryd.prog W = .ok (.slice (some ⟨W.heap.size, 0, none⟩) n n) (W.alloc (.cells arr 113)) := ⟨_, rfl, make_any n hn⟩
theorem arr_row {n : Nat} {arr : Array Value} (h : Hid (arr = (pc (List.replicate n (pz (.agg #[.int .i64 0, .string ⟨#[]⟩, .int .i64 0, .pointer none])))).toArray)) (w : World) : RowG 113 (w.alloc (.cells arr 113)) w.heap.size (List.replicate n (pz (.agg #[.int .i64 0, .string ⟨#[]⟩, .int .i64 0, .pointer none]))) [] := by
  unfold RowG
  rw [heap_last _ _ _ rfl, h.out, List.append_nil]

theorem new_any (w : World) :
    Calls Tryd.prog 29 #[] w fun e w' => e = .returned (.pointer (some ⟨w.heap.size + 1, 0, none⟩)) ∧ TbAt w' (w.heap.size + 1) w.heap.size none (newT (.agg #[.int .i64 0, .string ⟨#[]⟩, .int .i64 0, .pointer none])) ∧ Fr w w' (fun _ => False) ∧ w'.heap.size = w.heap.size + 2 := by
  obtain ⟨arr, HA, hmk⟩ := make_arr 8 (by omega)
  have hm8 : (Instr.makeSlice 95 (.int .i64 8) (.int .i64 8)).run Tryd.prog w = .ok (.slice (some ⟨w.heap.size, 0, none⟩) 8 8) (w.alloc (.cells arr 113)) := hmk w
  clear hmk
  go_enter Tryd.func29, Tryd.ntmps29
  go_wp2_with fail
  go_ret
  have hR := arr_row HA w
  refine ⟨rfl, ⟨⟨_, _, heap_last _ _ _ (by simp), ⟨8, [], rfl, hR.fr (alloc_fr _ _ (fun _ => False)) (fun h => h), by simp [newT]⟩, rfl, rfl⟩, by simp, (new_inv (.agg #[.int .i64 0, .string ⟨#[]⟩, .int .i64 0, .pointer none])).i0, Vok.rep 8, fun i hi => by simp [newT] at hi, by simp [newT]⟩, (alloc_fr w _ _).alloc _, by simp⟩

set_option maxHeartbeats 1000000 in
set_option maxRecDepth 100000 in
theorem grow_any {B gr : Nat} {ge : Option Nat} {T : Tb} (w : World) (h : TbAt w B gr ge T) (hI : Inv T) (hlen : 2 * T.row.length ≤ 1099511627776) :
    Calls Tryd.prog 49 #[.pointer (some ⟨B, 0, none⟩)] w fun e w' => e = .returned (.tuple #[]) ∧ (∃ gn, TbAt w' B gn (some gr) (growT (.agg #[.int .i64 0, .string ⟨#[]⟩, .int .i64 0, .pointer none]) T) ∧ w.heap.size ≤ gn) ∧ Fr w w' (bl B gr ge) := by
  have hlt := h.lt
  have HLf := hid (left_any w h)
  have HT := hid h
  have HMi := hid (move_inv (.agg #[.int .i64 0, .string ⟨#[]⟩, .int .i64 0, .pointer none]) h.inv (T.left : Int))
  have HGi := hid (grow_inv (.agg #[.int .i64 0, .string ⟨#[]⟩, .int .i64 0, .pointer none]) hI)
  have HG : Hid (growT (.agg #[.int .i64 0, .string ⟨#[]⟩, .int .i64 0, .pointer none]) T = ⟨List.replicate (2 * (moveT (.agg #[.int .i64 0, .string ⟨#[]⟩, .int .i64 0, .pointer none]) T (T.left : Int)).row.length) (pz (.agg #[.int .i64 0, .string ⟨#[]⟩, .int .i64 0, .pointer none])), (moveT (.agg #[.int .i64 0, .string ⟨#[]⟩, .int .i64 0, .pointer none]) T (T.left : Int)).row, 0, (moveT (.agg #[.int .i64 0, .string ⟨#[]⟩, .int .i64 0, .pointer none]) T (T.left : Int)).keys⟩) := rfl
  clear h hI
  go_enter Tryd.func49, Tryd.ntmps49
  go_wp2_with fail
  refine HLf.out.mono ?_
  rintro e w1 ⟨rfl, hf1⟩
  have HT1 := hid (HT.out.step hf1)
  have HF1 := hid (hf1.mono (T := bl B gr ge) (fun _ _ h => h.elim))
  clear hf1 HLf
  have HMv := hid (move_any (T.left : Int) w1 HT1.out)
  go_wp2_with fail
  refine HMv.out.mono ?_
  rintro e w2 ⟨rfl, ⟨ge', hT2, hge⟩, hf2⟩
  have HT2 := hid hT2
  have HF2 := hid (HF1.out.trans hf2)
  clear HMv hf2 HT1 HF1 hge
  have hml := HMi.out.2.2.2.1
  generalize hU : moveT (.agg #[.int .i64 0, .string ⟨#[]⟩, .int .i64 0, .pointer none]) T (T.left : Int) = U at *
  have HU := hid hU
  clear hU
  have hlt2 := hT2.lt
  obtain ⟨rv, ev, hc, hr, he⟩ := hT2.ex
  obtain ⟨c0, c1, c2, c3⟩ := cells4 hc
  have f0 := free4 hc 0
  have f1 := free4 hc 1
  have HC := hid hc
  have HR := hid hr
  have HsB := hid hT2.neB.1
  obtain ⟨capr, restr, rfl, hRr, hrne⟩ := hr
  have hgl := hRr.lt
  rw [hml] at c0
  obtain ⟨arr, HA, hmk⟩ := make_arr (2 * T.row.length) hlen
  have hm2 : ∀ W : World, (Instr.makeSlice 95 (.int .i64 (2 * (T.row.length : Int))) (.int .i64 (2 * (T.row.length : Int)))).run Tryd.prog W = .ok (.slice (some ⟨W.heap.size, 0, none⟩) (2 * T.row.length) (2 * T.row.length)) (W.alloc (.cells arr 113)) := fun W => hmk W
  have HML := hid hml
  have HRr := hid hRr
  clear hmk hc he hT2 hRr hml c2 c3
  go_wp2_with fail
  go_end0
  have hm0 : U.moved = 0 := by
    have h0 : U.left = 0 := by rw [HMi.out.2.2.1]; omega
    have h1 := HMi.out.1.i0.mv
    rw [HMi.out.1.shut h0] at h1
    simpa using h1
  have hS : Fr w2 ((w2.setCell ⟨B, 1, none⟩ (.slice (some ⟨gr, 0, none⟩) T.row.length capr)).setCell ⟨B, 0, none⟩ (.slice (some ⟨w2.heap.size, 0, none⟩) (2 * T.row.length) (2 * T.row.length))) (fun b => b = B) := ((Fr.refl w2 (fun b => b = B)).setCell (p := ⟨B, 1, none⟩) (fun _ => rfl) _).setCell (p := ⟨B, 0, none⟩) (fun _ => rfl) _
  have hsz : ((w2.setCell ⟨B, 1, none⟩ (.slice (some ⟨gr, 0, none⟩) T.row.length capr)).setCell ⟨B, 0, none⟩ (.slice (some ⟨w2.heap.size, 0, none⟩) (2 * T.row.length) (2 * T.row.length))).heap.size = w2.heap.size := by simp [World.setCell]
  have hN := arr_row HA ((w2.setCell ⟨B, 1, none⟩ (.slice (some ⟨gr, 0, none⟩) T.row.length capr)).setCell ⟨B, 0, none⟩ (.slice (some ⟨w2.heap.size, 0, none⟩) (2 * T.row.length) (2 * T.row.length)))
  rw [hsz] at hN
  have hpos := HT.out.inv.pos
  have hrl : (List.replicate (2 * U.row.length) (pz (.agg #[.int .i64 0, .string ⟨#[]⟩, .int .i64 0, .pointer none]))).length = 2 * T.row.length := by simp [HML.out]
  rw [HG.out]
  rw [HG.out] at HGi
  have hC2 := set40 (u := .slice (some ⟨w2.heap.size, 0, none⟩) (2 * T.row.length) (2 * T.row.length)) (set41 (u := .slice (some ⟨gr, 0, none⟩) T.row.length capr) HC.out)
  rw [hm0] at hC2
  refine ⟨rfl, ⟨w2.heap.size, ⟨⟨_, _, ?_, ⟨2 * T.row.length, [], by rw [hrl], ?_, ?_⟩, ⟨capr, restr, by rw [HML.out], (HRr.out.fr hS HsB.out).fr (alloc_fr _ _ (fun _ => False)) (fun h => h), hrne⟩⟩, ?_, HGi.out.1.i0, ?_, HT2.out.rok, ?_⟩, HF2.out.size⟩, ?_⟩
  · rw [Below.heap_alloc _ _ B (by rw [hsz]; exact hlt2)]
    exact hC2
  · rw [HML.out]
    exact hN
  · intro e
    have := congrArg List.length e
    rw [hrl] at this
    simp at this
    omega
  · intro e
    simp at e
    omega
  · rw [HML.out]
    exact Vok.rep _
  · rw [hrl]
    exact hlen
  · exact (HF2.out.trans2 hS (fun b _ e => Or.inl e)).alloc _

end Go.Proofs.YtcjadgnefojjgabDoor.R
