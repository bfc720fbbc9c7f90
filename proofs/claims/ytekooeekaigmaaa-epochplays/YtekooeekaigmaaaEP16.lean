/- The document's New; like: walks. -/
import Derived.Test.YtekooeekaigmaaaEP15
namespace Go.Proofs.Ytekooeekaigmaaa.E
open Go.RowKit Go.Maps Go.MuLone

theorem mkS (W : World) : (Instr.makeSlice 37 (.int .i64 65) (.int .i64 65)).run Try.prog W = .ok (.slice (some ⟨W.heap.size, 0, none⟩) 65 65) (W.alloc (.cells (rowA (fun _ => .slice none 0 0)) 38)) := by kernel_rfl
theorem mkI (W : World) : (Instr.makeSlice 38 (.int .i64 65) (.int .i64 65)).run Try.prog W = .ok (.slice (some ⟨W.heap.size, 0, none⟩) 65 65) (W.alloc (.cells (rowA (fun _ => .int .i64 0)) 3)) := by kernel_rfl
theorem three (V : World) (o1 o2 o3 : Obj) : (((V.alloc o1).alloc o2).alloc o3).heap[V.heap.size]? = some o1 ∧ (((V.alloc o1).alloc o2).alloc o3).heap[V.heap.size + 1]? = some o2 ∧ (((V.alloc o1).alloc o2).alloc o3).heap[V.heap.size + 1 + 1]? = some o3 := by
  have e1 : (V.alloc o1).heap.size = V.heap.size + 1 := by simp
  have e2 : ((V.alloc o1).alloc o2).heap.size = V.heap.size + 1 + 1 := by simp
  refine ⟨?_, ?_, ?_⟩
  · rw [Below.heap_alloc _ _ _ (by omega), Below.heap_alloc _ _ _ (by omega)]
    exact heap_alloc_new V o1
  · rw [Below.heap_alloc _ _ _ (by omega), ← e1]
    exact heap_alloc_new _ o2
  · rw [← e2]
    exact heap_alloc_new _ o3
theorem rb_new {W : World} {C S I : Nat} {pins : Int} (h1 : W.heap[C]? = some (.cells #[.int .i64 pins, .int .i64 1, .slice (some ⟨S, 0, none⟩) 65 65, .slice (some ⟨I, 0, none⟩) 65 65, .slice none 0 0, .slice none 0 0, .bool false] 40 (0, 0)))
    (h2 : W.heap[S]? = some (.cells (rowA (fun _ => .slice none 0 0)) 38 (0, 0))) (h3 : W.heap[I]? = some (.cells (rowA (fun _ => .int .i64 0)) 3 (0, 0))) (hne : C ≠ S ∧ C ≠ I ∧ S ≠ I) : Rb W C S I W.heap.size (fun _ => .slice none 0 0) (.slice none 0 0) (.slice none 0 0) (newB pins) [] :=
  ⟨h1, h2, h3, fun _ _ => World.ownsRow_nil _ _ _ _, World.ownsRow_nil _ _ _ _, World.ownsRow_nil _ _ _ _, ⟨lt_of_block h1, lt_of_block h2, lt_of_block h3, Nat.le_refl _⟩, hne, ⟨rfl, rfl⟩⟩
set_option maxHeartbeats 1000000 in
set_option maxRecDepth 100000 in
theorem rnew_any (pins : Int) (h1 : 1 ≤ pins) (h2 : pins ≤ 64) (w : World) :
    Calls Try.prog 11 #[.int .i64 pins] w fun x w' => ∃ C, x = .returned (.tuple #[.pointer (some ⟨C, 0, none⟩), .int .i64 0]) ∧ ∃ S I base, Rb w' C S I base (fun _ => .slice none 0 0) (.slice none 0 0) (.slice none 0 0) (newB pins) [] ∧ (w.heap.size ≤ C ∧ w.heap.size ≤ S ∧ w.heap.size ≤ I) ∧ Fr w w' (fun _ => False) := by
  have t1 : ¬ pins < 1 := by omega
  have t2 : ¬ 64 < pins := by omega
  have m1 := mkS
  have m2 := mkI
  obtain ⟨RA, hRA⟩ : ∃ RA, RA = rowA (fun _ => .slice none 0 0) := ⟨_, rfl⟩
  obtain ⟨RI, hRI⟩ : ∃ RI, RI = rowA (fun _ => .int .i64 0) := ⟨_, rfl⟩
  rw [← hRA] at m1
  rw [← hRI] at m2
  have HRA := hid hRA
  have HRI := hid hRI
  clear hRA hRI
  go_enter Try.func11, Try.ntmps11
  go_wp2_with fail
  go_region
  all_goals (go_wp2_with fail)
  all_goals go_ret2
  · obtain ⟨k1, k2, k3⟩ := three w.drew (.cells RA 38) (.cells RI 3) (.cells #[.int .i64 pins, .int .i64 1, .slice (some ⟨w.heap.size, 0, none⟩) 65 65, .slice (some ⟨w.heap.size + 1, 0, none⟩) 65 65, .slice none 0 0, .slice none 0 0, .bool false] 40)
    rw [HRA.out, HRI.out] at k1 k2 k3 ⊢
    exact ⟨w.heap.size + 1 + 1, rfl, w.heap.size, w.heap.size + 1, _, rb_new k3 k1 k2 ⟨by omega, by omega, by omega⟩, ⟨by omega, by omega, by omega⟩, (((Fr.refl w _).drew.alloc _).alloc _).alloc _⟩
  · obtain ⟨k1, k2, k3⟩ := three w.drew (.cells RI 3) (.cells RA 38) (.cells #[.int .i64 pins, .int .i64 1, .slice (some ⟨w.heap.size + 1, 0, none⟩) 65 65, .slice (some ⟨w.heap.size, 0, none⟩) 65 65, .slice none 0 0, .slice none 0 0, .bool false] 40)
    rw [HRA.out, HRI.out] at k1 k2 k3 ⊢
    exact ⟨w.heap.size + 1 + 1, rfl, w.heap.size + 1, w.heap.size, _, rb_new k3 k2 k1 ⟨by omega, by omega, by omega⟩, ⟨by omega, by omega, by omega⟩, (((Fr.refl w _).drew.alloc _).alloc _).alloc _⟩
theorem Pm.step {w W W' : World} {B C S I base : Nat} {b : Bo} (h : Pm w W B C S I base b) (hf : Fr W W' (fun _ => False)) : Pm w W' B C S I base b := by
  obtain ⟨⟨m, h1, h2⟩, ⟨sv, vD, vW, h3⟩, h5, h6, h7⟩ := h
  exact ⟨⟨m, h1.step hf, h2⟩, ⟨sv, vD, vW, h3.step hf⟩, h5, h6.trans hf, h7⟩
theorem Pm.drew {w W : World} {B C S I base : Nat} {b : Bo} (h : Pm w W B C S I base b) : Pm w W.drew B C S I base b := h.step ((Fr.refl _ _).drew)
theorem OwI.keepF {w w' : World} {base : Nat} {v : Value} {l : List Int} (h : OwI w base v l) (hf : Fr w w' (fun _ => False)) : OwI w' base v l := h.fr hf (fun _ _ h => h)
theorem OwI.drewF {w : World} {base : Nat} {v : Value} {l : List Int} (h : OwI w base v l) : OwI w.drew base v l := h.keepF ((Fr.refl _ _).drew)
/-- Both books, with the list that dies at hand. -/
def Pl (w W : World) (B C S I base : Nat) (b : Bo) (sv : Nat → Value) (vW : Value) (a4 : Option Addr) (c4 : Nat) : Prop := (∃ m, Bk W 0 B m b ∧ ∀ k, ow B m k → w.heap.size ≤ k) ∧ Rb W C S I base sv (.slice a4 (dyingL b).length c4) vW b (dyingL b) ∧ Fr w W (fun _ => False)
theorem Pl.step {w W W' : World} {B C S I base : Nat} {b : Bo} {sv : Nat → Value} {vW : Value} {a4 : Option Addr} {c4 : Nat} (h : Pl w W B C S I base b sv vW a4 c4) (hf : Fr W W' (fun _ => False)) : Pl w W' B C S I base b sv vW a4 c4 := by
  obtain ⟨⟨m, h1, h2⟩, h3, h6⟩ := h
  exact ⟨⟨m, h1.step hf, h2⟩, h3.step hf, h6.trans hf⟩
theorem Pl.drew {w W : World} {B C S I base : Nat} {b : Bo} {sv : Nat → Value} {vW : Value} {a4 : Option Addr} {c4 : Nat} (h : Pl w W B C S I base b sv vW a4 c4) : Pl w W.drew B C S I base b sv vW a4 c4 := h.step ((Fr.refl _ _).drew)
end Go.Proofs.Ytekooeekaigmaaa.E
