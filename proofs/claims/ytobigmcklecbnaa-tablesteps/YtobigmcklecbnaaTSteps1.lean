/- TableSteps: what stands in its loops; the calls it makes. -/
import Derived.Test.YtobigmcklecbnaaTSArgs
namespace Go.Proofs.Ytobigmcklecbnaa
open Go.RowKit

/-- A variable that points at a table. -/
def Bx (W : World) (N b : Nat) : Prop := W.heap[N]? = some (.cells #[.pointer (some ⟨b, 0, none⟩)] 31 (0, 0))
theorem Bx.fr {W W' : World} {N b : Nat} {S : Nat → Prop} (h : Bx W N b) (hf : Fr W W' S) (hS : ¬ S N) : Bx W' N b := (hf.block N (lt_of_block h) hS).trans h
theorem Bx.no {W : World} {N b B gr : Nat} {ge : Option Nat} {T : Tb} (h : Bx W N b) (ht : TbAt W B gr ge T) : ¬ bl B gr ge N := by
  obtain ⟨rv, ev, hc, hr, he⟩ := ht.ex
  have key : ∀ {g : Nat} {L : List Pl} {v : Value}, Ro W L v (some g) → g ≠ N := by
    rintro g L v ⟨cap, rest, _, hR, _⟩ rfl
    unfold RowG at hR
    unfold Bx at h
    rw [h] at hR
    simp at hR
  rintro (e | e | e)
  · subst e
    unfold Bx at h
    rw [h] at hc
    simp at hc
  · exact key hr e.symm
  · rw [e] at he
    exact key he rfl

/-- The table that grows, its variable at N. -/
structure S1 (w0 W : World) (N b : Nat) (T : Tb) : Prop where
  fr : Fr w0 W (fun _ => False)
  bx : Bx W N b
  ex : ∃ gr ge, TbAt W b gr ge T ∧ ∀ k, bl b gr ge k → w0.heap.size ≤ k
theorem S1.cells {w0 W : World} {N b : Nat} {T : Tb} (h : S1 w0 W N b T) : W.cell? ⟨N, 0, none⟩ = some (.pointer (some ⟨b, 0, none⟩)) ∧ N < W.heap.size ∧ b < W.heap.size := by
  obtain ⟨gr, ge, h1, _⟩ := h.ex
  exact ⟨cell_of_one h.bx, lt_of_block h.bx, h1.lt⟩
theorem S1.step {w0 W W' : World} {N b : Nat} {T : Tb} (h : S1 w0 W N b T) (hf : Fr W W' (fun _ => False)) : S1 w0 W' N b T := by
  obtain ⟨gr, ge, h1, h2⟩ := h.ex
  exact ⟨h.fr.trans hf, h.bx.fr hf (fun h => h), gr, ge, h1.step hf, h2⟩
theorem S1.put {w0 W : World} {N b c : Nat} {T : Tb} (h : S1 w0 W N b T) (hz : Sz T c) (hc : c ≤ 100000) (k : ByteArray) (x : Int) (hk : k.size ≤ 9223372036854775807) :
    Calls Try.prog 33 #[.pointer (some ⟨b, 0, none⟩), .string k, .int .i64 x] W fun e w' => e = .returned (.tuple #[]) ∧ S1 w0 w' N b (putT zI T k (.int .i64 x)) := by
  obtain ⟨gr, ge, h1, h2⟩ := h.ex
  have hl := hz.len
  refine (put_any k x W h1 hz.inv hk (by omega)).mono ?_
  rintro e w' ⟨rfl, ⟨gr', ge', h3, h4⟩, h5⟩
  have hs := h.fr.size
  refine ⟨rfl, h.fr.trans2 h5 (fun j hj e => by have := h2 j e; omega), h.bx.fr h5 (h.bx.no h1), gr', ge', h3, fun j hj => ?_⟩
  rcases h4 j hj with h6 | h6
  · exact h2 j h6
  · omega
theorem S1.slots {w0 W : World} {N b : Nat} {T : Tb} (h : S1 w0 W N b T) : Calls Try.prog 32 #[.pointer (some ⟨b, 0, none⟩)] W fun e w' => e = .returned (.int .i64 (T.row.length : Int)) ∧ w' = W := by
  obtain ⟨gr, ge, h1, _⟩ := h.ex
  exact slots_any W h1
theorem S1.left {w0 W : World} {N b : Nat} {T : Tb} (h : S1 w0 W N b T) : Calls Try.prog 34 #[.pointer (some ⟨b, 0, none⟩)] W fun e w' => e = .returned (.int .i64 (T.left : Int)) ∧ S1 w0 w' N b T := by
  obtain ⟨gr, ge, h1, _⟩ := h.ex
  refine (left_any W h1).mono ?_
  rintro e w' ⟨rfl, hf⟩
  exact ⟨rfl, h.step hf⟩

/-- The table and its twin. -/
structure S2 (w0 W : World) (N b c : Nat) (T X : Tb) : Prop where
  fr : Fr w0 W (fun _ => False)
  bx : Bx W N b
  ex : ∃ gr ge gr2 ge2, TbAt W b gr ge T ∧ TbAt W c gr2 ge2 X ∧ (∀ k, bl b gr ge k → w0.heap.size ≤ k) ∧ (∀ k, bl c gr2 ge2 k → w0.heap.size ≤ k) ∧ (∀ k, bl b gr ge k → ¬ bl c gr2 ge2 k)
theorem S2.cells {w0 W : World} {N b c : Nat} {T X : Tb} (h : S2 w0 W N b c T X) : W.cell? ⟨N, 0, none⟩ = some (.pointer (some ⟨b, 0, none⟩)) ∧ N < W.heap.size ∧ b < W.heap.size ∧ c < W.heap.size := by
  obtain ⟨gr, ge, gr2, ge2, h1, h2, _⟩ := h.ex
  exact ⟨cell_of_one h.bx, lt_of_block h.bx, h1.lt, h2.lt⟩
theorem S2.step {w0 W W' : World} {N b c : Nat} {T X : Tb} (h : S2 w0 W N b c T X) (hf : Fr W W' (fun _ => False)) : S2 w0 W' N b c T X := by
  obtain ⟨gr, ge, gr2, ge2, h1, h2, h3⟩ := h.ex
  exact ⟨h.fr.trans hf, h.bx.fr hf (fun h => h), gr, ge, gr2, ge2, h1.step hf, h2.step hf, h3⟩
theorem S1.twin {w0 W : World} {N b : Nat} {T : Tb} (h : S1 w0 W N b T) : Calls Try.prog 19 #[.pointer (some ⟨b, 0, none⟩)] W fun e w' => ∃ c, e = .returned (.pointer (some ⟨c, 0, none⟩)) ∧ S2 w0 w' N b c T T := by
  obtain ⟨gr, ge, h1, h2⟩ := h.ex
  refine (twin_any W h1).mono ?_
  rintro e w' ⟨B', gr', ge', rfl, hT, hN, hf⟩
  have hs := h.fr.size
  refine ⟨B', rfl, h.fr.trans hf, h.bx.fr hf (fun h => h), gr, ge, gr', ge', h1.step hf, hT, h2, fun k hk => by have := hN k hk; omega, fun k hk hk2 => ?_⟩
  have h5 := hN k hk2
  obtain ⟨rv, ev, hc, hr, he⟩ := h1.ex
  rcases hk with e | e | e
  · have := lt_of_block hc; omega
  · have := hr.lt; omega
  · rw [e] at he; have := he.lt; omega
theorem S2.move {w0 W : World} {N b c : Nat} {T X : Tb} (h : S2 w0 W N b c T X) (n : Int) :
    Calls Try.prog 35 #[.pointer (some ⟨b, 0, none⟩), .int .i64 n] W fun e w' => e = .returned (.int .i64 ((moveT zI T n).left : Int)) ∧ S2 w0 w' N b c (moveT zI T n) X := by
  obtain ⟨gr, ge, gr2, ge2, h1, h2, h3, h4, h5⟩ := h.ex
  refine (move_any n W h1).mono ?_
  rintro e w' ⟨rfl, ⟨ge', h6, h7⟩, h8⟩
  have hs := h.fr.size
  have hsub : ∀ k, bl b gr ge' k → bl b gr ge k := by
    rintro k (e | e | e)
    · exact Or.inl e
    · exact Or.inr (Or.inl e)
    · rcases h7 with h7 | h7
      · rw [h7] at e; exact Or.inr (Or.inr e)
      · rw [h7] at e; cases e
  exact ⟨rfl, h.fr.trans2 h8 (fun j hj e => by have := h3 j e; omega), h.bx.fr h8 (h.bx.no h1), gr, ge', gr2, ge2, h6, h2.fr h8 (fun k hk hk2 => h5 k hk2 hk), fun k hk => h3 k (hsub k hk), h4, fun k hk => h5 k (hsub k hk)⟩
theorem S2.len {w0 W : World} {N b c : Nat} {T X : Tb} (h : S2 w0 W N b c T X) (hk : T.keys = X.keys) (p : Nat) (hp : p = b ∨ p = c) : Calls Try.prog 36 #[.pointer (some ⟨p, 0, none⟩)] W fun e w' => e = .returned (.int .i64 (X.keys : Int)) ∧ w' = W := by
  obtain ⟨gr, ge, gr2, ge2, h1, h2, _⟩ := h.ex
  rcases hp with rfl | rfl
  · have := len_any W h1
    rw [hk] at this
    exact this
  · exact len_any W h2
theorem S2.left {w0 W : World} {N b c : Nat} {T X : Tb} (h : S2 w0 W N b c T X) : Calls Try.prog 34 #[.pointer (some ⟨b, 0, none⟩)] W fun e w' => e = .returned (.int .i64 (T.left : Int)) ∧ S2 w0 w' N b c T X := by
  obtain ⟨gr, ge, gr2, ge2, h1, _⟩ := h.ex
  refine (left_any W h1).mono ?_
  rintro e w' ⟨rfl, hf⟩
  exact ⟨rfl, h.step hf⟩
theorem S2.get {w0 W : World} {N b c : Nat} {T X : Tb} (h : S2 w0 W N b c T X) (hh : ∀ k v, Has T k v ↔ Has X k v) (k : ByteArray) (v : Int) (hP : EP X (k, v)) : Calls Try.prog 38 #[.pointer (some ⟨b, 0, none⟩), .string k] W fun e w' => e = .returned (.tuple #[.int .i64 v, .bool true]) ∧ w' = W := by
  obtain ⟨gr, ge, gr2, ge2, h1, _⟩ := h.ex
  have h5 := get_any k W h1 hP.2
  rw [get_has _ h1.inv ((hh _ _).2 hP.1)] at h5
  exact h5
theorem S2.all {w0 W : World} {N b c : Nat} {T X : Tb} (h : S2 w0 W N b c T X) : Calls Try.prog 37 #[.pointer (some ⟨c, 0, none⟩)] W fun r w' => ∃ M S cap L, r = .returned (.func (.func 68) #[] #[.pointer (some ⟨M, 0, none⟩)]) ∧ Sq w' M S cap L ∧ (∀ e ∈ L, EP X e) ∧ Fr W w' (fun _ => False) := by
  obtain ⟨gr, ge, gr2, ge2, h1, h2, _⟩ := h.ex
  refine (all_any W h2).mono ?_
  rintro e w' ⟨M, rfl, S, cap, L, _, _, hq, hp, _, hf⟩
  exact ⟨M, S, cap, L, rfl, hq, fun e he => entT_mem h2 (hp.subset he), hf⟩

/-- Texts, and numbers, that can be read at a slice. -/
def Ks (w : World) (v : Value) (ks : List ByteArray) : Prop :=
  ∃ ao cap, v = .slice ao ks.length cap ∧ (ks ≠ [] → ∃ (b off : Nat), ao = some ⟨b, off, none⟩ ∧ ∀ i, i < ks.length → w.cell? ⟨b, off + i, none⟩ = some (.string (ks.getD i none8)) ∧ (ks.getD i none8).size ≤ 9223372036854775807)
def Is (w : World) (v : Value) (xs : List Int) : Prop :=
  ∃ ao cap, v = .slice ao xs.length cap ∧ (xs ≠ [] → ∃ (b off : Nat), ao = some ⟨b, off, none⟩ ∧ ∀ i, i < xs.length → w.cell? ⟨b, off + i, none⟩ = some (.int .i64 (xs.getD i 0)))
theorem Ks.at {w0 W : World} {ao : Option Addr} {cap : Nat} {ks : List ByteArray} (h : Ks w0 (.slice ao ks.length cap) ks) (hf : Fr w0 W (fun _ => False)) {i : Nat} (hi : i < ks.length) : ∃ b off, ao = some ⟨b, off, none⟩ ∧ b < W.heap.size ∧ b < w0.heap.size ∧ W.cell? ⟨b, off + i, none⟩ = some (.string (ks.getD i none8)) ∧ (ks.getD i none8).size ≤ 9223372036854775807 := by
  obtain ⟨ao', cap', e, hc⟩ := h
  simp only [Value.slice.injEq] at e
  obtain ⟨rfl, _, rfl⟩ := e
  obtain ⟨b, off, rfl, hd⟩ := hc (by rintro rfl; simp at hi)
  obtain ⟨h0, h1⟩ := hd i hi
  have hlt := World.block_lt_of_cell? w0 _ h0
  exact ⟨b, off, rfl, Nat.lt_of_lt_of_le hlt hf.size, hlt, by rw [(fr_rules hf).1 _ _ hlt]; exact h0, h1⟩
theorem Is.at {w0 W : World} {ao : Option Addr} {cap : Nat} {xs : List Int} (h : Is w0 (.slice ao xs.length cap) xs) (hf : Fr w0 W (fun _ => False)) {i : Nat} (hi : i < xs.length) : ∃ b off, ao = some ⟨b, off, none⟩ ∧ b < W.heap.size ∧ b < w0.heap.size ∧ W.cell? ⟨b, off + i, none⟩ = some (.int .i64 (xs.getD i 0)) := by
  obtain ⟨ao', cap', e, hc⟩ := h
  simp only [Value.slice.injEq] at e
  obtain ⟨rfl, _, rfl⟩ := e
  obtain ⟨b, off, rfl, hd⟩ := hc (by rintro rfl; simp at hi)
  have h0 := hd i hi
  have hlt := World.block_lt_of_cell? w0 _ h0
  exact ⟨b, off, rfl, Nat.lt_of_lt_of_le hlt hf.size, hlt, by rw [(fr_rules hf).1 _ _ hlt]; exact h0⟩
end Go.Proofs.Ytobigmcklecbnaa
