/- chain: At: a walk. -/
import Derived.Test.YtcmniejffpoinabCUp
import Derived.Deep.DeepCutAuto
namespace Go.Proofs.Ytcmniejffpoinab
open Go.RowKit

/-- A version in a block of its own. -/
def VnAt (W : World) (N : Nat) (a : Int) (b : Bool) (c : Int) : Prop := W.heap[N]? = some (.cells #[.int .i64 a, .bool b, .int .i64 c] 48 (0, 0))
theorem VnAt.fr {W W' : World} {N : Nat} {a : Int} {b : Bool} {c : Int} (h : VnAt W N a b c) (hf : Fr W W' (fun _ => False)) : VnAt W' N a b c := (hf.block N (lt_of_block h) (fun h => h)).trans h
theorem VnAt.drew {W : World} {N : Nat} {a : Int} {b : Bool} {c : Int} (h : VnAt W N a b c) : VnAt W.drew N a b c := h
theorem VnAt.new (W : World) (a : Int) (b : Bool) (c : Int) (N : Nat) (hN : W.heap.size = N) : VnAt (W.alloc (.cells #[.int .i64 a, .bool b, .int .i64 c] 48)) N a b c := heap_last _ _ _ hN
theorem VnAt.cells {W : World} {N : Nat} {a : Int} {b : Bool} {c : Int} (h : VnAt W N a b c) : (W.cell? ⟨N, 0, none⟩ = some (.int .i64 a) ∧ W.cell? ⟨N, 1, none⟩ = some (.bool b) ∧ W.cell? ⟨N, 2, none⟩ = some (.int .i64 c)) ∧ W.frozen? ⟨N, 0, none⟩ = false ∧ W.frozen? ⟨N, 1, none⟩ = false ∧ W.frozen? ⟨N, 2, none⟩ = false := by
  have h' : W.heap[N]? = some (.cells #[.int .i64 a, .bool b, .int .i64 c] 48 (0, 0)) := h
  exact ⟨cells3 h', by simp [World.frozen?, h'], by simp [World.frozen?, h'], by simp [World.frozen?, h']⟩
theorem VnAt.set {W : World} {N : Nat} {a : Int} {b : Bool} {c : Int} (h : VnAt W N a b c) (a' : Int) (b' : Bool) (c' : Int) : VnAt (((W.setCell ⟨N, 0, none⟩ (.int .i64 a')).setCell ⟨N, 1, none⟩ (.bool b')).setCell ⟨N, 2, none⟩ (.int .i64 c')) N a' b' c' := by
  have h1 := heap_setCell_same W N 0 _ _ (.int .i64 a') h
  have h2 := heap_setCell_same _ N 1 _ _ (.bool b') h1
  have h3 := heap_setCell_same _ N 2 _ _ (.int .i64 c') h2
  exact h3

set_option maxHeartbeats 2000000 in
theorem at_any {base B : Nat} {v : Value} {L : List Vn} (e : Int) (w : World) (h : Ch w base B v L) :
    Calls Try.prog 13 #[.pointer (some ⟨B, 0, none⟩), .int .i64 e] w fun r w' => r = .returned (.tuple #[.int .i64 (atL L e).v, .bool (atL L e).t]) ∧ Fr w w' (fun _ => False) := by
  have hlt := h.lt
  have HCh := hid h
  obtain ⟨ao, cap, rfl, hcap⟩ := own_shape h.own
  have hup := up_le L e
  have HC0 := hid (fun (W' : World) (hf : Fr w W' (fun _ => False)) => (show W'.cell? ⟨B, 0, none⟩ = some (.slice ao L.length cap) from cell_of_one (h.step hf).cell))
  have HUp := hid (fun (W' : World) (hf : Fr w W' (fun _ => False)) => upTo_any e W' (h.step hf))
  have HLast := hid (fun (W' : World) (hf : Fr w W' (fun _ => False)) => last_any (.slice ao (up L e) cap) (L.take (up L e)) W' ((h.vs.take (up L e) hup).fr hf))
  clear h
  have e0 : atL L e = nw (L.take (up L e)) := rfl
  rw [← e0] at HLast
  unfold vA at HLast
  clear e0
  generalize atL L e = x at *
  generalize up L e = n at *
  have t1 : (0 : Int) ≤ (n : Int) := by omega
  have t2 : (n : Int) ≤ (cap : Int) := by omega
  go_enter Try.func13, Try.ntmps13
  go_wp2_with fail
  go_cut [6] (fun s wx => ∃ N, s = .pointer (some ⟨N, 0, none⟩) ∧ Hid (VnAt wx N x.e x.t x.v ∧ Fr w wx (fun _ => False)))
  case first =>
    go_region_held3 (fun W' => Hid (Fr w W' (fun _ => False)) ∧ W'.cell? ⟨B, 0, none⟩ = some (.slice ao L.length cap))
      ((refine (fun h => ⟨h, HC0.out _ h⟩ : Fr w _ (fun _ => False) → _) ?_; repeat (first | exact HF.out | exact Fr.refl _ _ | apply Fr.drew | apply Fr.alloc | (refine Fr.setCell ?_ ?_ _; rotate_left; (intro h; exfalso; first | (dsimp only at h; omega) | (simp at h; omega))))))
      ((first
        | (go_at_call 21; refine (HUp.out _ (by repeat (first | exact HF.out | exact Fr.refl _ _ | apply Fr.drew | apply Fr.alloc))).mono ?_; rintro e w1 ⟨rfl, hf⟩; (try (have HZ := hid (VnAt.fr (by first | exact VnAt.new _ 0 false 0 w.heap.size rfl | exact VnAt.drew (VnAt.new _ 0 false 0 w.heap.size rfl)) hf); have hzl := lt_of_block HZ.out)); have HF := hid (Fr.trans (a := w) (by repeat (first | exact HF.out | exact Fr.refl _ _ | apply Fr.drew | apply Fr.alloc)) hf); have hs1 := HF.out.size; clear hf)
        | (go_at_call 16; refine (HLast.out _ (by repeat (first | exact HF.out | exact Fr.refl _ _ | apply Fr.drew | apply Fr.alloc))).mono ?_; rintro e w2 ⟨rfl, hf⟩; (try (have HZ := hid (VnAt.fr (by first | exact HZ.out | exact HZ.out.drew | exact VnAt.new _ 0 false 0 _ rfl | exact VnAt.drew (VnAt.new _ 0 false 0 _ rfl)) hf); obtain ⟨⟨z0, z1, z2⟩, y0, y1, y2⟩ := HZ.out.cells; have hzl2 := lt_of_block HZ.out)); have HF := hid (Fr.trans (a := w) (by repeat (first | exact HF.out | exact Fr.refl _ _ | apply Fr.drew | apply Fr.alloc)) hf); have hs2 := HF.out.size; clear hf)))
    all_goals (go_wp2_with fail)
    all_goals go_meet
    all_goals refine ⟨_, rfl, hid ⟨(by first | exact HZ.out.set _ _ _ | exact VnAt.new _ _ _ _ _ rfl), ?_⟩⟩
    all_goals (repeat (first | exact HF.out | exact Fr.refl _ _ | apply Fr.drew | apply Fr.alloc | (refine Fr.setCell ?_ ?_ _; rotate_left; (intro h; exfalso; first | (dsimp only at h; omega) | (simp at h; omega)))))
  case rest =>
    obtain ⟨N, rfl, HX⟩ := hcut
    obtain ⟨⟨z0, z1, z2⟩, _⟩ := HX.out.1.cells
    have hzl := lt_of_block HX.out.1
    go_wp2_with fail
    go_quiet (fail)
    go_wp2_with fail
    go_ret2
    exact ⟨rfl, by repeat (first | exact HX.out.2 | apply Fr.drewN | apply Fr.drew)⟩
end Go.Proofs.Ytcmniejffpoinab
