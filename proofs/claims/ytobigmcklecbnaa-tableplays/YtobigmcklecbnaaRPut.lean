/- The document's table: New, Put: walks. -/
import Derived.Test.YtobigmcklecbnaaRMove
import Derived.Test.YtobigmcklecbnaaTTab5
namespace Go.Proofs.Ytobigmcklecbnaa
open Go.RowKit

theorem Try.info_rplace : (Try.prog.info? 115).map (fun i => (i.zero, i.size, i.bytes)) = some (some (.agg #[.bool false, .bool false, .string ⟨#[]⟩, .int .i64 0]), 4, 32) := by kernel_rfl
theorem rmake_any (n : Nat) (hn : n ≤ 1099511627776) (W : World) : (Instr.makeSlice 69 (.int .i64 (n : Int)) (.int .i64 (n : Int))).run Try.prog W = .ok (.slice (some ⟨W.heap.size, 0, none⟩) n n) (W.alloc (.cells (pd (List.replicate n (pz (.int .i64 0)))).toArray 115)) := by
  obtain ⟨i0, hi, hz0, hz1, hz2⟩ := info_parts Try.info_rplace
  have hr := run_make (P := Try.prog) W 69 115 i0 _ Try.underlying69 hi hz0 .i64 .i64 n n (by omega) (Int.le_refl _) (by rw [hz2]; omega) (by omega)
  rw [hr, Int.toNat_natCast, hz1]
  have h3 := pd_rep (.int .i64 0) n
  unfold none8 at h3
  rw [← h3]
  rfl
theorem rmake_arr (n : Nat) (hn : n ≤ 1099511627776) : ∃ arr : Array Value, Hid (arr = (pd (List.replicate n (pz (.int .i64 0)))).toArray) ∧ ∀ W : World, (Instr.makeSlice 69 (.int .i64 (n : Int)) (.int .i64 (n : Int))).run Try.prog W = .ok (.slice (some ⟨W.heap.size, 0, none⟩) n n) (W.alloc (.cells arr 115)) := ⟨_, rfl, rmake_any n hn⟩
theorem rarr_row {n : Nat} {arr : Array Value} (h : Hid (arr = (pd (List.replicate n (pz (.int .i64 0)))).toArray)) (w : World) : RowH (w.alloc (.cells arr 115)) w.heap.size (List.replicate n (pz (.int .i64 0))) [] := by
  unfold RowH
  rw [heap_last _ _ _ rfl, h.out, List.append_nil]

theorem rnew_any (w : World) :
    Calls Try.prog 18 #[] w fun e w' => e = .returned (.pointer (some ⟨w.heap.size + 1, 0, none⟩)) ∧ RfAt w' (w.heap.size + 1) w.heap.size none (newT (.int .i64 0)) ∧ Fr w w' (fun _ => False) ∧ w'.heap.size = w.heap.size + 2 := by
  obtain ⟨arr, HA, hmk⟩ := rmake_arr 8 (by omega)
  have hm8 : (Instr.makeSlice 69 (.int .i64 8) (.int .i64 8)).run Try.prog w = .ok (.slice (some ⟨w.heap.size, 0, none⟩) 8 8) (w.alloc (.cells arr 115)) := hmk w
  clear hmk
  go_enter Try.func18, Try.ntmps18
  go_wp2_with fail
  go_ret
  have hR := rarr_row HA w
  refine ⟨rfl, ⟨⟨_, _, heap_last _ _ _ (by simp), ⟨8, [], rfl, hR.fr (alloc_fr _ _ (fun _ => False)) (fun h => h), by simp [newT]⟩, rfl, rfl⟩, by simp, (new_inv (.int .i64 0)).i0, Vok.rep 8, fun i hi => by simp [newT] at hi, by simp [newT]⟩, (alloc_fr w _ _).alloc _, by simp⟩

set_option maxHeartbeats 800000 in
set_option maxRecDepth 100000 in
theorem rput_any {B gr : Nat} {ge : Option Nat} {T : Tb} (k : ByteArray) (x : Int) (w : World) (h : RfAt w B gr ge T) (hI : Inv T) (hk : k.size ≤ 9223372036854775807) (hlen : 2 * T.row.length ≤ 1099511627776) :
    Calls Try.prog 43 #[.pointer (some ⟨B, 0, none⟩), .string k, .int .i64 x] w fun e w' => e = .returned (.tuple #[]) ∧ (∃ gr' ge', RfAt w' B gr' ge' (putT (.int .i64 0) T k (.int .i64 x)) ∧ Nb w B gr ge gr' ge') ∧ Fr w w' (bl B gr ge) := by
  have hlt := h.lt
  have HT := hid h
  have HMi := hid (move_inv (.int .i64 0) h.inv 4)
  have HMv := hid (rmove_any 4 w h)
  have HPd : Hid (putT (.int .i64 0) T k (.int .i64 x) = (
    if (placeT (moveT (.int .i64 0) T 4) k).2.2 then
      (if (placeT (moveT (.int .i64 0) T 4) k).2.1 then ⟨(moveT (.int .i64 0) T 4).row, putIn (moveT (.int .i64 0) T 4).elder (placeT (moveT (.int .i64 0) T 4) k).1 (.int .i64 x), (moveT (.int .i64 0) T 4).moved, (moveT (.int .i64 0) T 4).keys⟩ else ⟨putIn (moveT (.int .i64 0) T 4).row (placeT (moveT (.int .i64 0) T 4) k).1 (.int .i64 x), (moveT (.int .i64 0) T 4).elder, (moveT (.int .i64 0) T 4).moved, (moveT (.int .i64 0) T 4).keys⟩)
    else
      ⟨layP (if 3 * (moveT (.int .i64 0) T 4).row.length < 4 * ((moveT (.int .i64 0) T 4).keys + 1) then growT (.int .i64 0) (moveT (.int .i64 0) T 4) else (moveT (.int .i64 0) T 4)).row k (.int .i64 x), (if 3 * (moveT (.int .i64 0) T 4).row.length < 4 * ((moveT (.int .i64 0) T 4).keys + 1) then growT (.int .i64 0) (moveT (.int .i64 0) T 4) else (moveT (.int .i64 0) T 4)).elder, (if 3 * (moveT (.int .i64 0) T 4).row.length < 4 * ((moveT (.int .i64 0) T 4).keys + 1) then growT (.int .i64 0) (moveT (.int .i64 0) T 4) else (moveT (.int .i64 0) T 4)).moved, (if 3 * (moveT (.int .i64 0) T 4).row.length < 4 * ((moveT (.int .i64 0) T 4).keys + 1) then growT (.int .i64 0) (moveT (.int .i64 0) T 4) else (moveT (.int .i64 0) T 4)).keys + 1⟩)) := rfl
  clear h
  go_enter Try.func43, Try.ntmps43
  go_wp2_with fail
  refine HMv.out.mono ?_
  rintro e w1 ⟨rfl, ⟨ge1, hT1, hge⟩, hf1⟩
  generalize moveT (.int .i64 0) T 4 = U at *
  have HT1 := hid hT1
  have HF1 := hid hf1
  have HGe := hid hge
  have hs1 := hf1.size
  have hlU : 2 * U.row.length ≤ 1099511627776 := by rw [HMi.out.2.2.2.1]; exact hlen
  clear hge hf1 HMv
  have HFn := hid (rplace_any k w1 hT1 hk)
  obtain ⟨rv, ev, hc, hr, he⟩ := hT1.ex
  obtain ⟨capr, restr, rfl, hRr, hrne⟩ := hr
  have HNb0 : Hid (Nb w B gr ge gr ge1) := by
    intro b hb
    left
    rcases hb with hb | hb | hb
    · exact Or.inl hb
    · exact Or.inr (Or.inl hb)
    · rcases HGe.out with e | e
      · rw [e] at hb; exact Or.inr (Or.inr hb)
      · rw [e] at hb; cases hb
  have HFm : Hid (∀ w' : World, Fr w1 w' (bl B gr ge1) → Fr w w' (bl B gr ge)) := fun w' hf => HF1.out.trans2 hf (fun b hb e => by
    rcases HNb0.out b e with h1 | h1
    · exact h1
    · omega)
  have hfB := free4 hc
  have hmI := HMi.out.1
  have hmH := HMi.out.2.1
  have HIP : Hid (Inv (putT (.int .i64 0) T k (.int .i64 x)) ∧ (putT (.int .i64 0) T k (.int .i64 x)).row.length ≤ 1099511627776) := by
    rcases Classical.em (∃ v, Has T k v) with ⟨v, hv⟩ | hv
    · obtain ⟨a1, _, _, a4, _⟩ := put_there (z := .int .i64 0) hI (.int .i64 x) hv
      exact ⟨a1, by rw [a4]; omega⟩
    · obtain ⟨a1, _, _, a4, _⟩ := put_new (z := .int .i64 0) hI (.int .i64 x) (fun v h => hv ⟨v, h⟩)
      refine ⟨a1, ?_⟩
      rw [a4]
      split <;> omega
  have HneB := hid hT1.neB
  have Hne := hid hT1.ne
  have HC := hid hc
  have HR := hid hRr
  have HE := hid he
  have hlt1 := hT1.lt
  have HOkx : Hid (okP ⟨1, k, .int .i64 x⟩) := ⟨⟨x, rfl⟩, hk⟩
  rcases place_cases hT1.inv k with ⟨i, hf, hp⟩ | ⟨i, hf, hp⟩ | ⟨hn, hp⟩
  · rw [hp] at HFn HPd
    simp only [if_true, Bool.false_eq_true, if_false] at HFn HPd
    obtain ⟨b1, b2, b2', b3⟩ := hRr.cells i hf.1
    have f2 := hRr.free (i * 4 + 3)
    have hgl := hRr.lt
    have HFd := hid hf
    obtain ⟨c0, c1, c2, c3⟩ := cells4 hc
    have t0 : (0 : Int) ≤ (i : Int) := by omega
    have t1 : (i : Int) < (U.row.length : Int) := by have := hf.1; omega
    clear hc he hRr hT1 hf hp b1 b2 b2' hfB hmI hmH hI
    go_wp2_with fail
    refine HFn.out.mono ?_
    rintro e w2 ⟨rfl, hw2⟩
    have hw2 := hw2.symm
    subst hw2
    go_wp2_with fail
    refine bodyPost_ret (results_none Try.results43 _ _ _) rfl ?_
    rw [HPd.out] at HIP ⊢
    have hS := set_fr w1 ⟨gr, i * 4 + 3, none⟩ (.int .i64 x)
    have hL : (putIn U.row i (.int .i64 x)).length = U.row.length := by simp [putIn]
    refine ⟨rfl, ⟨gr, ge1, ⟨⟨_, _, by rw [hS.block B hlt1 (fun e => HneB.out.1 e.symm)]; exact HC.out, ⟨capr, restr, by rw [hL], HR.out.setv i HFd.out.1 (.int .i64 x), ?_⟩, HE.out.fr hS (fun g e e2 => Hne.out (by rw [e, e2]))⟩, Hne.out, HIP.out.1.i0, ?_, HT1.out.eok, HIP.out.2⟩, HNb0.out⟩, HFm.out _ (hS.mono (fun b _ e => Or.inr (Or.inl e)))⟩
    · intro e
      apply hrne
      apply List.eq_nil_of_length_eq_zero
      rw [← hL]
      simp only at e
      rw [e]; rfl
    · exact HT1.out.rok.set i _ HFd.out.1 ⟨⟨x, rfl⟩, (HT1.out.rok i HFd.out.1).2⟩
  · rw [hp] at HFn HPd
    simp only [if_true] at HFn HPd
    have hi := hf.1
    have hene : U.elder ≠ [] := by intro e; rw [e] at hi; simp at hi
    cases ge1 with
    | none => exact absurd he.1 hene
    | some g =>
      obtain ⟨cape, reste, rfl, hRe, _⟩ := he
      obtain ⟨b1, b2, b2', b3⟩ := hRe.cells i hf.1
      have f2 := hRe.free (i * 4 + 3)
      have hgl := hRe.lt
      have HFd := hid hf
      have HRe := hid hRe
      obtain ⟨c0, c1, c2, c3⟩ := cells4 hc
      have t0 : (0 : Int) ≤ (i : Int) := by omega
      have t1 : (i : Int) < (U.elder.length : Int) := by have := hf.1; omega
      clear hc hRr hRe hT1 hf hp b1 b2 b2' hfB hmI hmH hI hi
      go_wp2_with fail
      refine HFn.out.mono ?_
      rintro e w2 ⟨rfl, hw2⟩
      have hw2 := hw2.symm
      subst hw2
      go_wp2_with fail
      refine bodyPost_ret (results_none Try.results43 _ _ _) rfl ?_
      rw [HPd.out] at HIP ⊢
      have hS := set_fr w1 ⟨g, i * 4 + 3, none⟩ (.int .i64 x)
      have hL : (putIn U.elder i (.int .i64 x)).length = U.elder.length := by simp [putIn]
      refine ⟨rfl, ⟨gr, some g, ⟨⟨_, _, by rw [hS.block B hlt1 (fun e => HneB.out.2 (by rw [e]))]; exact HC.out, ⟨capr, restr, rfl, HR.out.fr hS (fun e => Hne.out (by rw [e])), hrne⟩, ⟨cape, reste, by rw [hL], HRe.out.setv i HFd.out.1 (.int .i64 x), ?_⟩⟩, Hne.out, HIP.out.1.i0, HT1.out.rok, ?_, HIP.out.2⟩, HNb0.out⟩, HFm.out _ (hS.mono (fun b _ e => Or.inr (Or.inr (by rw [e]))))⟩
      · intro e
        apply hene
        apply List.eq_nil_of_length_eq_zero
        rw [← hL]
        simp only at e
        rw [e]; rfl
      · exact HT1.out.eok.set i _ HFd.out.1 ⟨⟨x, rfl⟩, (HT1.out.eok i HFd.out.1).2⟩
  · rw [hp] at HFn HPd
    simp only [Bool.false_eq_true, if_false] at HFn HPd
    obtain ⟨c0, c1, c2, c3⟩ := cells4 hc
    have hnT : ∀ v, ¬ Has U k v := hn
    have hkl : U.keys ≤ 1099511627776 := by have := hT1.inv.room; have := hT1.len; omega
    have hrl := hT1.len
    by_cases hg : 3 * U.row.length < 4 * (U.keys + 1)
    · rw [if_pos hg] at HPd
      have t1 : 3 * (U.row.length : Int) < 4 * ((U.keys : Int) + 1) := by omega
      have HGi := hid (grow_inv (.int .i64 0) hmI)
      have HLf := hid (fun (W : World) (hW : Fr w1 W (fun _ => False)) => rleft_any W (hT1.step hW))
      have HMv := hid (fun (W : World) (hW : Fr w1 W (fun _ => False)) => rmove_any (U.left : Int) W (hT1.step hW))
      have HMj := hid (move_inv (.int .i64 0) hT1.inv (U.left : Int))
      clear hc he hRr hT1 hp hfB hmI hmH hI hg c1 c2 hn hnT
      go_wp2_with fail
      refine HFn.out.mono ?_
      rintro e w2 ⟨rfl, hw2⟩
      have hw2 := hw2.symm
      subst hw2
      go_wp2_with fail
      go_quiet (fail)
      go_wp2_with fail
      refine (HLf.out _ ((Fr.refl _ _).drewN _)).mono ?_
      rintro e w3 ⟨rfl, hf3⟩
      have HF3 := hid (show Fr w1 w3 (fun _ => False) from hf3.ofDrewN)
      clear hf3
      go_wp2_with fail
      refine (HMv.out _ HF3.out).mono ?_
      rintro e w4 ⟨rfl, ⟨ge4, hT4, hge4⟩, hf4⟩
      have HT4 := hid hT4
      have HF4 := hid ((HF3.out.mono (T := bl B gr ge1) (fun _ _ h => h.elim)).trans hf4)
      have hml := HMj.out.2.2.2.1
      have HG : Hid (growT (.int .i64 0) U = ⟨List.replicate (2 * (moveT (.int .i64 0) U (U.left : Int)).row.length) (pz (.int .i64 0)), (moveT (.int .i64 0) U (U.left : Int)).row, 0, (moveT (.int .i64 0) U (U.left : Int)).keys⟩) := rfl
      have hpos := hT4.inv.pos
      clear hf4 hge4 c0 c3
      generalize moveT (.int .i64 0) U (U.left : Int) = M at *
      have hlt4 := hT4.lt
      obtain ⟨rv4, ev4, hc4, hr4, he4⟩ := hT4.ex
      obtain ⟨cap4, rest4, rfl, hR4, hrne4⟩ := hr4
      obtain ⟨d0, d1, d2, d3⟩ := cells4 hc4
      have e0 := free4 hc4 0
      have e1 := free4 hc4 1
      have e2 := free4 hc4 2
      have HC4 := hid hc4
      have HR4 := hid hR4
      have hgl4 := hR4.lt
      have hM2 : 2 * M.row.length ≤ 1099511627776 := by rw [hml]; omega
      obtain ⟨arr, HA, hmk⟩ := rmake_arr (2 * M.row.length) hM2
      have hm2 : ∀ W : World, (Instr.makeSlice 69 (.int .i64 (2 * (M.row.length : Int))) (.int .i64 (2 * (M.row.length : Int)))).run Try.prog W = .ok (.slice (some ⟨W.heap.size, 0, none⟩) (2 * M.row.length) (2 * M.row.length)) (W.alloc (.cells arr 115)) := fun W => hmk W
      have HML := hid hml
      clear hmk hc4 hR4 he4 hT4 hml
      go_wp2_with fail
      have hsz : (((w4.setCell ⟨B, 1, none⟩ (.slice (some ⟨gr, 0, none⟩) M.row.length cap4)).setCell ⟨B, 2, none⟩ (.int .i64 0)).setCell ⟨B, 0, none⟩ (.slice (some ⟨w4.heap.size, 0, none⟩) (2 * M.row.length) (2 * M.row.length))).heap.size = w4.heap.size := by simp [World.setCell]
      have HX : Hid (RowH ((((w4.setCell ⟨B, 1, none⟩ (.slice (some ⟨gr, 0, none⟩) M.row.length cap4)).setCell ⟨B, 2, none⟩ (.int .i64 0)).setCell ⟨B, 0, none⟩ (.slice (some ⟨w4.heap.size, 0, none⟩) (2 * M.row.length) (2 * M.row.length))).alloc (.cells arr 115)) w4.heap.size (List.replicate (2 * M.row.length) (pz (.int .i64 0))) [] ∧ Fr w4 ((((w4.setCell ⟨B, 1, none⟩ (.slice (some ⟨gr, 0, none⟩) M.row.length cap4)).setCell ⟨B, 2, none⟩ (.int .i64 0)).setCell ⟨B, 0, none⟩ (.slice (some ⟨w4.heap.size, 0, none⟩) (2 * M.row.length) (2 * M.row.length))).alloc (.cells arr 115)) (fun b => b = B) ∧ ((((w4.setCell ⟨B, 1, none⟩ (.slice (some ⟨gr, 0, none⟩) M.row.length cap4)).setCell ⟨B, 2, none⟩ (.int .i64 0)).setCell ⟨B, 0, none⟩ (.slice (some ⟨w4.heap.size, 0, none⟩) (2 * M.row.length) (2 * M.row.length))).alloc (.cells arr 115)).heap[B]? = some (.cells #[.slice (some ⟨w4.heap.size, 0, none⟩) (2 * M.row.length) (2 * M.row.length), .slice (some ⟨gr, 0, none⟩) M.row.length cap4, .int .i64 0, .int .i64 (M.keys : Int)] 71 (0, 0))) := by
        refine ⟨?_, ?_, ?_⟩
        · have hN := rarr_row HA (((w4.setCell ⟨B, 1, none⟩ (.slice (some ⟨gr, 0, none⟩) M.row.length cap4)).setCell ⟨B, 2, none⟩ (.int .i64 0)).setCell ⟨B, 0, none⟩ (.slice (some ⟨w4.heap.size, 0, none⟩) (2 * M.row.length) (2 * M.row.length)))
          rw [hsz] at hN
          exact hN
        · exact ((((Fr.refl w4 (fun b => b = B)).setCell (p := ⟨B, 1, none⟩) (fun _ => rfl) _).setCell (p := ⟨B, 2, none⟩) (fun _ => rfl) _).setCell (p := ⟨B, 0, none⟩) (fun _ => rfl) _).alloc _
        · rw [Below.heap_alloc _ _ B (by rw [hsz]; exact hlt4)]
          exact set40 (set42 (set41 HC4.out))
      generalize (((w4.setCell ⟨B, 1, none⟩ (.slice (some ⟨gr, 0, none⟩) M.row.length cap4)).setCell ⟨B, 2, none⟩ (.int .i64 0)).setCell ⟨B, 0, none⟩ (.slice (some ⟨w4.heap.size, 0, none⟩) (2 * M.row.length) (2 * M.row.length))).alloc (.cells arr 115) = W5 at *
      have HR5 := hid HX.out.1
      have HF5 := hid HX.out.2.1
      have HC5 := hid HX.out.2.2
      have HneB4 := hid HT4.out.neB.1
      have HRe5 := hid (HR4.out.fr HF5.out HneB4.out)
      have HEm : Hid (Emp (List.replicate (2 * M.row.length) (pz (.int .i64 0)))) := by
        have := HGi.out.1.i0.row_emp
        rw [HG.out] at this
        exact this
      clear HX hsz d0 d1 d2 d3 e0 e1 e2 hm2 HA
      have HFd := hid (rfind_any (cap := 2 * M.row.length) k W5 HR5.out HEm.out hk (by simp; exact hM2))
      have hl := (lookL_spec k HEm.out).1
      have HLP : Hid (layP (List.replicate (2 * M.row.length) (pz (.int .i64 0))) k (.int .i64 x) = (List.replicate (2 * M.row.length) (pz (.int .i64 0))).set (lookL (List.replicate (2 * M.row.length) (pz (.int .i64 0))) k).1 ⟨1, k, .int .i64 x⟩) := rfl
      generalize (lookL (List.replicate (2 * M.row.length) (pz (.int .i64 0))) k).1 = j at *
      generalize (lookL (List.replicate (2 * M.row.length) (pz (.int .i64 0))) k).2 = there at *
      obtain ⟨b0, b1, b2, b3⟩ := HR5.out.cells j hl
      have f0 := HR5.out.free (j * 4)
      have f1 := HR5.out.free (j * 4 + 1)
      have f2 := HR5.out.free (j * 4 + 2)
      have f3 := HR5.out.free (j * 4 + 3)
      obtain ⟨d0, d1, d2, d3⟩ := cells4 HC5.out
      have e3 := free4 HC5.out 3
      have l5 := lt_of_block HC5.out
      have l6 := HR5.out.lt
      have HL := hid hl
      simp only [List.length_replicate] at HFd hl
      have t2 : (0 : Int) ≤ (j : Int) := by omega
      have t3 : (j : Int) < 2 * (M.row.length : Int) := by omega
      have hBn : B ≠ w4.heap.size := by omega
      have hMk : M.keys ≤ 1099511627776 := by have := HT4.out.inv.room; have := HT4.out.len; omega
      refine HFd.out.mono ?_
      rintro e w6 ⟨rfl, hw6⟩
      have hw6 := hw6.symm
      subst hw6
      go_wp2_with fail
      go_end0
      rw [HPd.out] at HIP ⊢
      rw [HG.out] at HIP ⊢
      have hD := set4w_fr W5 w4.heap.size (j * 4) ⟨1, k, .int .i64 x⟩ (Fr.refl W5 (fun b => b = w4.heap.size)) (fun _ => rfl)
      have hS := set_fr (set4w W5 w4.heap.size (j * 4) ⟨1, k, .int .i64 x⟩) ⟨B, 3, none⟩ (.int .i64 ((M.keys : Int) + 1))
      have hC6 := (hD.block B l5 (fun e => hBn e)).trans HC5.out
      dsimp only at HIP ⊢
      rw [HLP.out] at HIP ⊢
      refine ⟨rfl, ⟨w4.heap.size, some gr, ⟨⟨_, _, set43 hC6, ⟨2 * M.row.length, [], by simp, (HR5.out.set j HL.out ⟨1, k, .int .i64 x⟩).fr hS (fun e => hBn e.symm), ?_⟩, ⟨cap4, rest4, rfl, (HRe5.out.fr hD (fun e => by omega)).fr hS HneB4.out, hrne4⟩⟩, ?_, HIP.out.1.i0, ?_, HT4.out.rok, HIP.out.2⟩, ?_⟩, ?_⟩
      · intro e
        have := congrArg List.length e
        simp at this
        omega
      · intro e
        simp at e
        omega
      · exact (Vok.rep _).set j _ HL.out HOkx.out
      · intro b hb
        rcases hb with hb | hb | hb
        · exact Or.inl (Or.inl hb)
        · have := HF4.out.size
          exact Or.inr (by omega)
        · exact Or.inl (Or.inr (Or.inl (by cases hb; rfl)))
      · refine HFm.out _ (((HF4.out.trans2 HF5.out (fun b _ e => Or.inl e)).trans2 hD (fun b hb e => by have := HF4.out.size; omega)).trans2 hS (fun b _ e => Or.inl e))
    · rw [if_neg hg] at HPd
      have t1 : ¬ 3 * (U.row.length : Int) < 4 * ((U.keys : Int) + 1) := by omega
      have HEm := hid HT1.out.inv.row_emp
      have HFd := hid (fun (W : World) (hW : RowH W gr U.row restr) => rfind_any (cap := capr) k W hW HEm.out hk hrl)
      have hl := (lookL_spec k HEm.out).1
      have HLP : Hid (layP U.row k (.int .i64 x) = U.row.set (lookL U.row k).1 ⟨1, k, .int .i64 x⟩) := rfl
      generalize (lookL U.row k).1 = j at *
      generalize (lookL U.row k).2 = there at *
      obtain ⟨b0, b1, b2, b3⟩ := HR.out.cells j hl
      have f0 := HR.out.free (j * 4)
      have f1 := HR.out.free (j * 4 + 1)
      have f2 := HR.out.free (j * 4 + 2)
      have f3 := HR.out.free (j * 4 + 3)
      have e3 := free4 HC.out 3
      have l6 := HR.out.lt
      have HL := hid hl
      have t2 : (0 : Int) ≤ (j : Int) := by omega
      have t3 : (j : Int) < (U.row.length : Int) := by omega
      have hBn : B ≠ gr := fun e => HneB.out.1 e.symm
      clear hc he hRr hT1 hp hfB hmI hmH hI hg c1 c2 hn hnT
      go_wp2_with fail
      refine HFn.out.mono ?_
      rintro e w2 ⟨rfl, hw2⟩
      have hw2 := hw2.symm
      subst hw2
      go_wp2_with fail
      go_quiet (fail)
      go_wp2_with fail
      refine (HFd.out (w1.drewN nq) HR.out).mono ?_
      rintro e w6 ⟨rfl, hw6⟩
      have hw6 := hw6.symm
      subst hw6
      go_wp2_with fail
      go_end0
      rw [HPd.out] at HIP ⊢
      have hD := set4w_fr (w1.drewN nq) gr (j * 4) ⟨1, k, .int .i64 x⟩ ((Fr.refl w1 (fun b => b = gr)).drewN nq) (fun _ => rfl)
      have hS := set_fr (set4w (w1.drewN nq) gr (j * 4) ⟨1, k, .int .i64 x⟩) ⟨B, 3, none⟩ (.int .i64 ((U.keys : Int) + 1))
      have hC6 := (hD.block B hlt1 (fun e => hBn e)).trans HC.out
      dsimp only at HIP ⊢
      rw [HLP.out] at HIP ⊢
      refine ⟨rfl, ⟨gr, ge1, ⟨⟨_, _, set43 hC6, ⟨capr, restr, by simp, (RowH.set (w := w1.drewN nq) HR.out j HL.out ⟨1, k, .int .i64 x⟩).fr hS (fun e => hBn e.symm), ?_⟩, (HE.out.fr hD (fun g e e2 => Hne.out (by rw [e, e2]))).fr hS (fun g e e2 => HneB.out.2 (by rw [e, e2]))⟩, Hne.out, HIP.out.1.i0, HT1.out.rok.set j _ HL.out HOkx.out, HT1.out.eok, HIP.out.2⟩, HNb0.out⟩, ?_⟩
      · intro e
        apply hrne
        apply List.eq_nil_of_length_eq_zero
        have := congrArg List.length e
        simpa using this
      · exact HFm.out _ ((hD.mono (fun b _ e => Or.inr (Or.inl e))).trans2 hS (fun b _ e => Or.inl e))
end Go.Proofs.Ytobigmcklecbnaa
