/- chain: At: a walk. -/
import Derived.Test.YtgbkihkefdoddaaGreatDoorJoin11
import Derived.Deep.DeepCutAuto
namespace Go.Proofs.YtgbkihkefdoddaaGreatDoor.G
open Go.RowKit

/-- A version in a block of its own. -/
def VnAt (W : World) (N : Nat) (x : Vn) : Prop := W.heap[N]? = some (.cells #[.int .i64 x.e, .bool x.t, .int .i64 x.v.c, .int .i64 x.v.s, .int .i64 x.v.m, .int .i64 x.v.x] 143 (0, 0))
theorem VnAt.fr {W W' : World} {N : Nat} {x : Vn} (h : VnAt W N x) (hf : Fr W W' (fun _ => False)) : VnAt W' N x := (hf.block N (lt_of_block h) (fun h => h)).trans h
theorem VnAt.drew {W : World} {N : Nat} {x : Vn} (h : VnAt W N x) : VnAt W.drew N x := h
theorem VnAt.new (W : World) (x : Vn) (N : Nat) (hN : W.heap.size = N) : VnAt (W.alloc (.cells #[.int .i64 x.e, .bool x.t, .int .i64 x.v.c, .int .i64 x.v.s, .int .i64 x.v.m, .int .i64 x.v.x] 143)) N x := heap_last _ _ _ hN
theorem VnAt.new0 (W : World) (N : Nat) (hN : W.heap.size = N) : VnAt (W.alloc (.cells #[.int .i64 0, .bool false, .int .i64 0, .int .i64 0, .int .i64 0, .int .i64 0] 143)) N z0 := heap_last _ _ _ hN
theorem VnAt.cells {W : World} {N : Nat} {x : Vn} (h : VnAt W N x) : (W.cell? ⟨N, 0, none⟩ = some (.int .i64 x.e) ∧ W.cell? ⟨N, 1, none⟩ = some (.bool x.t) ∧ W.cell? ⟨N, 2, none⟩ = some (.int .i64 x.v.c) ∧ W.cell? ⟨N, 3, none⟩ = some (.int .i64 x.v.s) ∧ W.cell? ⟨N, 4, none⟩ = some (.int .i64 x.v.m) ∧ W.cell? ⟨N, 5, none⟩ = some (.int .i64 x.v.x)) ∧ ∀ o, W.frozen? ⟨N, o, none⟩ = false := by
  have h' : W.heap[N]? = some (.cells #[.int .i64 x.e, .bool x.t, .int .i64 x.v.c, .int .i64 x.v.s, .int .i64 x.v.m, .int .i64 x.v.x] 143 (0, 0)) := h
  exact ⟨cells6 h', fun o => by simp [World.frozen?, h']⟩
theorem VnAt.set {W : World} {N : Nat} {x : Vn} (h : VnAt W N x) (y : Vn) : VnAt ((((((W.setCell ⟨N, 0, none⟩ (.int .i64 y.e)).setCell ⟨N, 1, none⟩ (.bool y.t)).setCell ⟨N, 2, none⟩ (.int .i64 y.v.c)).setCell ⟨N, 3, none⟩ (.int .i64 y.v.s)).setCell ⟨N, 4, none⟩ (.int .i64 y.v.m)).setCell ⟨N, 5, none⟩ (.int .i64 y.v.x)) N y := by
  have h1 := heap_setCell_same W N 0 _ _ (.int .i64 y.e) h
  have h2 := heap_setCell_same _ N 1 _ _ (.bool y.t) h1
  have h3 := heap_setCell_same _ N 2 _ _ (.int .i64 y.v.c) h2
  have h4 := heap_setCell_same _ N 3 _ _ (.int .i64 y.v.s) h3
  have h5 := heap_setCell_same _ N 4 _ _ (.int .i64 y.v.m) h4
  have h6 := heap_setCell_same _ N 5 _ _ (.int .i64 y.v.x) h5
  exact h6
/-- The answer's block, an aggregate of noughts as yet. -/
def AgAt (W : World) (N : Nat) (a : A4) : Prop := W.heap[N]? = some (.cells #[.int .i64 a.c, .int .i64 a.s, .int .i64 a.m, .int .i64 a.x] 35 (0, 0))
theorem AgAt.fr {W W' : World} {S : Nat → Prop} {N : Nat} {a : A4} (h : AgAt W N a) (hf : Fr W W' S) (hS : ¬ S N) : AgAt W' N a := (hf.block N (lt_of_block h) hS).trans h

set_option maxHeartbeats 16000000 in
theorem at_any {base B : Nat} {v : Value} {L : List Vn} (e : Int) (w : World) (h : Ch w base B v L) :
    Calls Tryz.prog 117 #[.pointer (some ⟨B, 0, none⟩), .int .i64 e] w fun r w' => r = .returned (.tuple #[.agg #[.int .i64 (atL L e).v.c, .int .i64 (atL L e).v.s, .int .i64 (atL L e).v.m, .int .i64 (atL L e).v.x], .bool (atL L e).t]) ∧ Fr w w' (fun _ => False) := by
  have hlt := h.lt
  have HCh := hid h
  obtain ⟨ao, cap, rfl, hcap⟩ := own_shape h.own
  have hup := up_le L e
  have HC0 := hid (fun (W' : World) (hf : Fr w W' (fun _ => False)) => (show W'.cell? ⟨B, 0, none⟩ = some (.slice ao L.length cap) from cell_of_one (h.step hf).cell))
  have HUp := hid (fun (W' : World) (hf : Fr w W' (fun _ => False)) => upTo_any e W' (h.step hf))
  have HLast := hid (fun (W' : World) (hf : Fr w W' (fun _ => False)) => last_any (.slice ao (up L e) cap) (L.take (up L e)) W' ((h.vs.take (up L e) hup).fr hf))
  clear h
  have e0 : atL L e = nw (L.take (up L e)) := rfl
  rw [← e0] at HLast
  unfold vA at HLast
  clear e0
  generalize atL L e = x at *
  generalize up L e = n at *
  have t1 : (0 : Int) ≤ (n : Int) := by omega
  have t2 : (n : Int) ≤ (cap : Int) := by omega
  go_enter Tryz.func117, Tryz.ntmps117
  go_wp2_with fail
  have HA0 : Hid (AgAt (w.alloc (.cells #[.int .i64 0, .int .i64 0, .int .i64 0, .int .i64 0] 35)) w.heap.size a0) := heap_last _ _ _ rfl
  have HFa := hid (alloc_fr w (.cells #[.int .i64 0, .int .i64 0, .int .i64 0, .int .i64 0] 35) (fun _ => False))
  have hwa : w.heap.size < (w.alloc (.cells #[.int .i64 0, .int .i64 0, .int .i64 0, .int .i64 0] 35)).heap.size := by simp
  have HC0a := hid (fun (W' : World) (hf : Fr (w.alloc (.cells #[.int .i64 0, .int .i64 0, .int .i64 0, .int .i64 0] 35)) W' (fun _ => False)) => HC0.out W' (HFa.out.trans hf))
  have hc00 := HC0a.out _ (Fr.refl _ _)
  have hltA : B < (w.alloc (.cells #[.int .i64 0, .int .i64 0, .int .i64 0, .int .i64 0] 35)).heap.size := by simp; omega
  generalize w.alloc (.cells #[.int .i64 0, .int .i64 0, .int .i64 0, .int .i64 0] 35) = wa at *
  go_cut [6] (fun s wx => ∃ N, s = .pointer (some ⟨N, 0, none⟩) ∧ Hid (VnAt wx N x ∧ Fr wa wx (fun _ => False)))
  case first =>
    go_region_held3 (fun W' => Hid (Fr wa W' (fun _ => False)) ∧ W'.cell? ⟨B, 0, none⟩ = some (.slice ao L.length cap))
      ((refine (fun h => ⟨h, HC0a.out _ h⟩ : Fr wa _ (fun _ => False) → _) ?_; repeat (first | with_reducible exact HF.out | with_reducible exact Fr.refl _ _ | with_reducible apply Fr.drew | with_reducible apply Fr.alloc | (with_reducible refine Fr.setCell ?_ ?_ _; rotate_left; (intro h; exfalso; first | (dsimp only at h; omega) | (simp at h; omega))))))
      ((first
        | (go_at_call 142; refine (HUp.out _ (HFa.out.trans (by repeat (first | with_reducible exact HF.out | with_reducible exact Fr.refl _ _ | with_reducible apply Fr.drew | with_reducible apply Fr.alloc)))).mono ?_; rintro e w1 ⟨rfl, hf⟩; (try (have HZ := hid (VnAt.fr (by first | exact VnAt.new0 _ wa.heap.size rfl | exact VnAt.drew (VnAt.new0 _ wa.heap.size rfl)) hf); have hzl := lt_of_block HZ.out)); have HF := hid (Fr.trans (a := wa) (by repeat (first | with_reducible exact HF.out | with_reducible exact Fr.refl _ _ | with_reducible apply Fr.drew | with_reducible apply Fr.alloc)) hf); have hs1 := HF.out.size; clear hf)
        | (go_at_call 109; refine (HLast.out _ (HFa.out.trans (by repeat (first | with_reducible exact HF.out | with_reducible exact Fr.refl _ _ | with_reducible apply Fr.drew | with_reducible apply Fr.alloc)))).mono ?_; rintro e w2 ⟨rfl, hf⟩; (try (have HZ := hid (VnAt.fr (by first | exact HZ.out | exact HZ.out.drew | exact VnAt.new0 _ _ rfl | exact VnAt.drew (VnAt.new0 _ _ rfl)) hf); obtain ⟨⟨z0, z1, z2, z3, z4, z5⟩, y0⟩ := HZ.out.cells; have hzl2 := lt_of_block HZ.out)); have HF := hid (Fr.trans (a := wa) (by repeat (first | with_reducible exact HF.out | with_reducible exact Fr.refl _ _ | with_reducible apply Fr.drew | with_reducible apply Fr.alloc)) hf); have hs2 := HF.out.size; clear hf)))
    all_goals (go_wp2_with fail)
    all_goals go_meet
    all_goals refine ⟨_, rfl, hid ⟨(by first | (with_reducible apply VnAt.set; exact HZ.out) | (with_reducible apply VnAt.drew; with_reducible apply VnAt.set; exact HZ.out) | (with_reducible apply VnAt.new; rfl) | (with_reducible apply VnAt.drew; with_reducible apply VnAt.new; rfl)), ?_⟩⟩
    all_goals (repeat (first | with_reducible exact HF.out | with_reducible exact Fr.refl _ _ | with_reducible apply Fr.drew | with_reducible apply Fr.alloc | (with_reducible refine Fr.setCell ?_ ?_ _; rotate_left; (intro h; exfalso; first | (dsimp only at h; omega) | (simp at h; omega)))))
  case rest =>
    obtain ⟨N, rfl, HX⟩ := hcut
    obtain ⟨⟨z0, z1, z2, z3, z4, z5⟩, _⟩ := HX.out.1.cells
    have hzl := lt_of_block HX.out.1
    have HG := HA0.out.fr HX.out.2 (fun h => h)
    have hNe : N ≠ w.heap.size := by
      rintro rfl
      have h1 : wc.heap[w.heap.size]? = _ := HX.out.1
      rw [show wc.heap[w.heap.size]? = _ from HG] at h1
      simp at h1
    have hNe2 : w.heap.size ≠ N := fun e => hNe e.symm
    obtain ⟨y0, y1, y2, y3⟩ := cells4 HG
    have hyf := free4 HG
    have hyl := lt_of_block HG
    clear HG
    go_wp2_with fail
    go_region
    go_wp2_with fail
    refine bodyPost_ret (v := .tuple #[.agg #[.int .i64 x.v.c, .int .i64 x.v.s, .int .i64 x.v.m, .int .i64 x.v.x], .bool x.t]) (by simp [results, Tryz.results117, go_sem, y0, y1, y2, y3]) rfl ⟨rfl, ?_⟩
    repeat (first | exact HFa.out.trans HX.out.2 | refine Fr.setCell ?_ (p := ⟨w.heap.size, _, none⟩) (fun h => absurd h (Nat.lt_irrefl _)) _ | apply Fr.alloc | apply Fr.drewN | apply Fr.drew)
end Go.Proofs.YtgbkihkefdoddaaGreatDoor.G
