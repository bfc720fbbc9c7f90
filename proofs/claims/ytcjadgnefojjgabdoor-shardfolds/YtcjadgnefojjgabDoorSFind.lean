/- shard: noRows, New, find, need, row.at: walks. -/
import Derived.Test.YtcjadgnefojjgabDoorSBase
namespace Go.Proofs.YtcjadgnefojjgabDoor.S
open Go.RowKit G

/-- A row in a block of its own. -/
def RwAt (W : World) (N : Nat) (x : R.Rw) : Prop := W.heap[N]? = some (.cells #[.int .i64 x.v, .string x.k, .int .i64 x.s, .pointer x.p] 60 (0, 0))
theorem RwAt.fr {W W' : World} {P : Nat → Prop} {N : Nat} {x : R.Rw} (h : RwAt W N x) (hf : Fr W W' P) (hP : ¬ P N) : RwAt W' N x := (hf.block N (lt_of_block h) hP).trans h
theorem RwAt.drew {W : World} {N : Nat} {x : R.Rw} (h : RwAt W N x) : RwAt W.drew N x := h
theorem RwAt.new (W : World) (x : R.Rw) (N : Nat) (hN : W.heap.size = N) : RwAt (W.alloc (.cells #[.int .i64 x.v, .string x.k, .int .i64 x.s, .pointer x.p] 60)) N x := heap_last _ _ _ hN
theorem RwAt.new0 (W : World) (N : Nat) (hN : W.heap.size = N) : RwAt (W.alloc (.cells #[.int .i64 0, .string ⟨#[]⟩, .int .i64 0, .pointer none] 60)) N R.rz := heap_last _ _ _ hN
theorem RwAt.cells {W : World} {N : Nat} {x : R.Rw} (h : RwAt W N x) : (W.cell? ⟨N, 0, none⟩ = some (.int .i64 x.v) ∧ W.cell? ⟨N, 1, none⟩ = some (.string x.k) ∧ W.cell? ⟨N, 2, none⟩ = some (.int .i64 x.s) ∧ W.cell? ⟨N, 3, none⟩ = some (.pointer x.p)) ∧ ∀ o, W.frozen? ⟨N, o, none⟩ = false := ⟨cells4 h, free4 h⟩
theorem RwAt.set {W : World} {N : Nat} {x : R.Rw} (h : RwAt W N x) (y : R.Rw) : RwAt ((((W.setCell ⟨N, 0, none⟩ (.int .i64 y.v)).setCell ⟨N, 1, none⟩ (.string y.k)).setCell ⟨N, 2, none⟩ (.int .i64 y.s)).setCell ⟨N, 3, none⟩ (.pointer y.p)) N y := by
  have h1 := heap_setCell_same W N 0 _ _ (.int .i64 y.v) h
  have h2 := heap_setCell_same _ N 1 _ _ (.string y.k) h1
  have h3 := heap_setCell_same _ N 2 _ _ (.int .i64 y.s) h2
  exact heap_setCell_same _ N 3 _ _ (.pointer y.p) h3

theorem noRows_any (w : World) :
    Calls Tryd.prog 12 #[] w fun e w' => ∃ B gr, e = .returned (.agg #[.pointer (some ⟨B, 0, none⟩)]) ∧ R.TbAt w' B gr none (newT zR) ∧ w.heap.size ≤ B ∧ w.heap.size ≤ gr ∧ Fr w w' (fun _ => False) := by
  go_enter Tryd.func12, Tryd.ntmps12
  go_wp2_with fail
  refine (R.new_any _).mono ?_
  rintro e w1 ⟨rfl, hT, hf, hs⟩
  have HZ := (hf.block w.heap.size (by simp) (fun h => h)).trans (heap_last _ _ _ rfl)
  have hz0 := cell_of_one HZ
  have hzf := free_of_one HZ
  have hzl := lt_of_block HZ
  have HF := hid ((alloc_fr w _ _).trans hf)
  have HT := hid hT
  have hsz : (w.alloc (.cells #[.pointer none] 48)).heap.size = w.heap.size + 1 := by simp
  rw [hsz] at HT hs ⊢
  clear hf hT HZ hsz
  go_wp2_with fail
  refine bodyPost_ret (v := .agg #[.pointer (some ⟨w.heap.size + 1 + 1, 0, none⟩)]) (by simp [results, Tryd.results12, go_sem, hz0]) rfl ⟨w.heap.size + 1 + 1, w.heap.size + 1, rfl, ?_, ?_, ?_, ?_⟩
  · exact HT.out.fr (S := fun b => b = w.heap.size) (Fr.setCell (Fr.refl w1 (fun b => b = w.heap.size)) (p := ⟨w.heap.size, 0, none⟩) (fun _ => rfl) _) (fun b hb e => by rcases hb with hb | hb | hb; omega; omega; cases hb)
  · omega
  · omega
  · exact HF.out.setCell (p := ⟨w.heap.size, 0, none⟩) (fun h => absurd h (Nat.lt_irrefl _)) _

/-- What New answers. -/
def NewR (w w' : World) (slots : Int) (e : Ending) : Prop := Fr w w' (fun _ => False) ∧ if slots < 2 ∨ 1048576 < slots then e = .returned (.tuple #[.pointer none, .int .i64 1]) else ∃ S X, e = .returned (.tuple #[.pointer (some ⟨S, 0, none⟩), .int .i64 0]) ∧ Sh w' w.heap.size S slots.toNat X []
theorem new_any (slots : Int) (w : World) (hg : Gl w) :
    Calls Tryd.prog 4 #[.int .i64 slots] w fun e w' => NewR w w' slots e := by
  by_cases h1 : slots < 2
  · go_enter Tryd.func4, Tryd.ntmps4
    go_wp2_with fail
    go_ret2
    refine ⟨Fr.refl _ _, ?_⟩
    rw [if_pos (by omega)]
    rfl
  by_cases h2 : 1048576 < slots
  · go_enter Tryd.func4, Tryd.ntmps4
    go_wp2_with fail
    go_ret2
    refine ⟨Fr.refl _ _, ?_⟩
    rw [if_pos (by omega)]
    rfl
  go_enter Tryd.func4, Tryd.ntmps4
  go_wp2_with fail
  refine (noRows_any _).mono ?_
  rintro e w1 ⟨B, gr, rfl, hT, hB, hgr, hf⟩
  have HT := hid hT
  have HF := hid hf
  clear hT hf
  go_wp2_with fail
  go_ret2
  refine ⟨HF.out.alloc _, ?_⟩
  rw [if_neg (by omega)]
  have hlB := HT.out.lt
  refine ⟨w1.heap.size, own w1.heap.size B gr none [], rfl, B, gr, none, newT zR, [], ?_, rfl, rfl⟩
  have hs := HF.out.size
  exact
    { cell := by rw [heap_last _ _ _ rfl, show ((slots.toNat : Nat) : Int) = slots by omega]; rfl
      tb := HT.out.step (alloc_fr _ _ _)
      inv := new_inv zR
      has := fun k v => ⟨fun h => absurd h (new_has _ k v), fun ⟨e, he, _⟩ => by simp at he⟩
      ch := fun e he => by simp at he
      ne := fun e he => by simp at he
      may := fun e he => by simp at he
      apart := List.Pairwise.nil
      lo := fun b hb => by
        rcases hb with rfl | hb | ⟨e, he, _⟩
        · exact hs
        · rcases hb with rfl | rfl | hb
          · exact hB
          · exact hgr
          · cases hb
        · simp at he
      gl := (hg.fr HF.out (fun h => h)).fr (alloc_fr _ _ (fun _ => False)) (fun h => h)
      gb := hg.lt
      room := by simp [nU, nV, nT]
      sl := by omega
      keys := rfl
      tlen := by simp [newT] }
end Go.Proofs.YtcjadgnefojjgabDoor.S
