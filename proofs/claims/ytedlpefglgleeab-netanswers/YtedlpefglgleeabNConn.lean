/- net: a connection in memory; the functions of its two sides: walks. -/
import Derived.Test.YtedlpefglgleeabNBuf
import Derived.Deep.RegionHeld
namespace Go.Proofs.Ytedlpefglgleeab
open Go.RowKit

def Cp.r (x : Cp) : Nat → List Nat
  | 0 => x.i
  | 1 => x.w
  | 2 => x.o
  | _ => x.h
/-- A connection in memory: its block, its four rows. -/
structure Cm where
  k : Nat
  v : Nat → Value
  x : Cp
def Cm.cs (g : Cm) (a b : Nat) : List Value := [g.v 0, .int .i64 (a : Int), g.v 1, .int .i64 ((1048576 : Nat) : Int), g.v 2, .int .i64 (b : Int), g.v 3, .bool g.x.cl, .bool g.x.ct]
def Cm.ow (g : Cm) (k : Nat) : Prop := k = g.k ∨ ∃ i, i < 4 ∧ (g.v i).ownBlock = some k
structure Cn (w : World) (lo a b : Nat) (g : Cm) : Prop where
  cell : w.heap[g.k]? = some (.cells (g.cs a b).toArray 69 (0, 0))
  row : ∀ i, i < 4 → Rw w lo 5 (g.v i) (g.x.r i)
  ap : ∀ i j k, i < 4 → j < 4 → (g.v i).ownBlock = some k → (g.v j).ownBlock = some k → i = j
  lo : lo ≤ g.k
theorem Cn.step {w w' : World} {S : Nat → Prop} {lo a b : Nat} {g : Cm} (h : Cn w lo a b g) (hf : Fr w w' S) (hS : ∀ k, g.ow k → ¬ S k) : Cn w' lo a b g :=
  ⟨keep_block h.cell hf (hS _ (Or.inl rfl)), fun i hi => (h.row i hi).fr hf (fun k hk => hS k (Or.inr ⟨i, hi, hk⟩)), h.ap, h.lo⟩
theorem Cn.still {w w' : World} {lo a b : Nat} {g : Cm} (h : Cn w lo a b g) (hf : Fr w w' (fun _ => False)) : Cn w' lo a b g := h.step hf (fun _ _ h => h)
theorem Cn.lt {w : World} {lo a b : Nat} {g : Cm} (h : Cn w lo a b g) {k : Nat} (hk : g.ow k) : k < w.heap.size := by
  rcases hk with rfl | ⟨i, hi, hk⟩
  · exact lt_of_block h.cell
  · exact ((h.row i hi).lt hk).2
theorem Cn.ge {w : World} {lo a b : Nat} {g : Cm} (h : Cn w lo a b g) {k : Nat} (hk : g.ow k) : lo ≤ k := by
  rcases hk with rfl | ⟨i, hi, hk⟩
  · exact h.lo
  · exact ((h.row i hi).lt hk).1
theorem Cn.nk {w : World} {lo a b : Nat} {g : Cm} (h : Cn w lo a b g) {i : Nat} (hi : i < 4) : (g.v i).ownBlock ≠ some g.k := (h.row i hi).ne h.cell (by decide)
def Gr (w : World) (O O' : Nat → Prop) : Prop := ∀ k, O' k → O k ∨ w.heap.size ≤ k
theorem Gr.refl (w : World) (O : Nat → Prop) : Gr w O O := fun _ h => Or.inl h
theorem Gr.trans {w w1 : World} {A B C : Nat → Prop} (h : Gr w A B) (k : Gr w1 B C) (hs : w.heap.size ≤ w1.heap.size) : Gr w A C := by
  intro i hi
  rcases k i hi with k | k
  · exact h i k
  · exact Or.inr (Nat.le_trans hs k)
def Cm.set (g : Cm) (i : Nat) (u : Value) (x : Cp) : Cm := ⟨g.k, fun j => if j = i then u else g.v j, x⟩
/-- What a call leaves of a connection. -/
def CnA (w w' : World) (lo a b : Nat) (g : Cm) (x : Cp) : Prop := ∃ g' : Cm, g'.k = g.k ∧ g'.x = x ∧ Cn w' lo a b g' ∧ Gr w g.ow g'.ow ∧ Fr w w' g.ow
theorem Cn.same {w w' : World} {lo a b : Nat} {g : Cm} (h : Cn w lo a b g) (hf : Fr w w' (fun _ => False)) : CnA w w' lo a b g g.x := ⟨g, rfl, rfl, h.still hf, Gr.refl _ _, hf.mono (fun _ _ h => h.elim)⟩
theorem CnA.pre {w w1 w2 : World} {lo a b : Nat} {g : Cm} {x : Cp} (hf : Fr w w1 (fun _ => False)) (h : CnA w1 w2 lo a b g x) : CnA w w2 lo a b g x := by
  obtain ⟨g', h1, h2, h3, h4, h5⟩ := h
  refine ⟨g', h1, h2, h3, fun k hk => ?_, (hf.mono (fun _ _ h => h.elim)).trans h5⟩
  have := hf.size
  rcases h4 k hk with h | h
  · exact Or.inl h
  · exact Or.inr (by omega)
theorem CnA.still {w w1 w2 : World} {lo a b : Nat} {g : Cm} {x : Cp} (h : CnA w w1 lo a b g x) (hf : Fr w1 w2 (fun _ => False)) : CnA w w2 lo a b g x := by
  obtain ⟨g', h1, h2, h3, h4, h5⟩ := h
  exact ⟨g', h1, h2, h3.still hf, h4, h5.trans (hf.mono (fun _ _ h => h.elim))⟩
/-- A row is put in another's place. -/
theorem Cn.set {w w' : World} {lo a b : Nat} {g : Cm} (h : Cn w lo a b g) {i : Nat} (hi : i < 4) {u : Value} {x : Cp} (hx : ∀ j, j < 4 → j ≠ i → x.r j = g.x.r j) (hc : w'.heap[g.k]? = some (.cells ((g.set i u x).cs a b).toArray 69 (0, 0))) (hr : Rw w' lo 5 u (x.r i)) (hf : Fr w w' (fun k => k = g.k ∨ (g.v i).ownBlock = some k)) (hn : Nw w (g.v i) u) : Cn w' lo a b (g.set i u x) ∧ Gr w g.ow (g.set i u x).ow ∧ Fr w w' g.ow := by
  refine ⟨⟨hc, fun j hj => ?_, fun p q k hp hq h1 h2 => ?_, h.lo⟩, fun k hk => ?_, hf.mono ?_⟩
  · show Rw w' lo _ (if j = i then u else g.v j) (x.r j)
    split
    · rename_i e; subst e; exact hr
    · rename_i e
      rw [hx j hj e]
      refine (h.row j hj).fr hf ?_
      rintro k hk (e1 | e1)
      · subst e1; exact h.nk hj hk
      · exact e (h.ap j i k hj hi hk e1)
  · change (if p = i then u else g.v p).ownBlock = some k at h1
    change (if q = i then u else g.v q).ownBlock = some k at h2
    have key : ∀ j, j < 4 → j ≠ i → (g.v j).ownBlock = some k → u.ownBlock = some k → False := by
      intro j hj hne h3 h4
      rcases hn k h4 with h5 | h5
      · exact hne (h.ap j i k hj hi h3 h5)
      · have := (h.row j hj).lt h3; omega
    split at h1 <;> split at h2
    · omega
    · exact (key q hq (by assumption) h2 h1).elim
    · exact (key p hp (by assumption) h1 h2).elim
    · exact h.ap p q k hp hq h1 h2
  · rcases hk with e | ⟨j, hj, hk⟩
    · exact Or.inl (Or.inl e)
    · change (if j = i then u else g.v j).ownBlock = some k at hk
      split at hk
      · rcases hn k hk with h5 | h5
        · exact Or.inl (Or.inr ⟨i, hi, h5⟩)
        · exact Or.inr h5
      · exact Or.inl (Or.inr ⟨j, hj, hk⟩)
  · rintro k _ (e | e)
    · exact Or.inl e
    · exact Or.inr ⟨i, hi, e⟩
/-- A flag is turned. -/
theorem Cn.flag {w w' : World} {lo a b : Nat} {g : Cm} (h : Cn w lo a b g) {x : Cp} (hx : ∀ j, x.r j = g.x.r j) (hc : w'.heap[g.k]? = some (.cells ((⟨g.k, g.v, x⟩ : Cm).cs a b).toArray 69 (0, 0))) (hf : Fr w w' (fun k => k = g.k)) : CnA w w' lo a b g x := by
  refine ⟨⟨g.k, g.v, x⟩, rfl, rfl, ⟨hc, fun j hj => ?_, h.ap, h.lo⟩, fun k hk => Or.inl hk, hf.mono (fun k _ e => Or.inl e)⟩
  rw [hx j]
  exact (h.row j hj).fr hf (fun k hk e => h.nk hj (by rw [hk, e]))
theorem CnA.trans {w w1 w2 : World} {lo a b : Nat} {g : Cm} {x y : Cp} (h : CnA w w1 lo a b g x) (k : ∀ g', g'.k = g.k → g'.x = x → Cn w1 lo a b g' → CnA w1 w2 lo a b g' y) : CnA w w2 lo a b g y := by
  obtain ⟨g', h1, h2, h3, h4, h5⟩ := h
  obtain ⟨g2, k1, k2, k3, k4, k5⟩ := k g' h1 h2 h3
  refine ⟨g2, k1.trans h1, k2, k3, h4.trans k4 h5.size, h5.trans2 k5 (fun k hk ho => ?_)⟩
  rcases h4 k ho with h | h
  · exact h
  · omega
theorem Cn.b0 {w : World} {lo a b : Nat} {g : Cm} (h : Cn w lo a b g) : BB w g.k 69 [] [g.v 1, .int .i64 ((1048576 : Nat) : Int), g.v 2, .int .i64 (b : Int), g.v 3, .bool g.x.cl, .bool g.x.ct] (g.v 0) a := h.cell
theorem Cn.b1 {w : World} {lo a b : Nat} {g : Cm} (h : Cn w lo a b g) : BB w g.k 69 [g.v 0, .int .i64 (a : Int)] [g.v 2, .int .i64 (b : Int), g.v 3, .bool g.x.cl, .bool g.x.ct] (g.v 1) 1048576 := h.cell
theorem Cn.b2 {w : World} {lo a b : Nat} {g : Cm} (h : Cn w lo a b g) : BB w g.k 69 [g.v 0, .int .i64 (a : Int), g.v 1, .int .i64 ((1048576 : Nat) : Int)] [g.v 3, .bool g.x.cl, .bool g.x.ct] (g.v 2) b := h.cell
/-- Behind a buffer's function. -/
theorem Cn.bf {w w' : World} {lo a b : Nat} {g : Cm} {x : Cp} (h : Cn w lo a b g) {i : Nat} (hi : i < 4) (hx : ∀ j, j < 4 → j ≠ i → x.r j = g.x.r j) {A C : List Value} {room : Nat} (hA : BfA w w' lo g.k 69 A C (g.v i) room (x.r i)) (hc : ∀ u, A ++ ([u, .int .i64 (room : Int)] ++ C) = (g.set i u x).cs a b) : CnA w w' lo a b g x := by
  obtain ⟨u, h1, h2, h3, h4⟩ := hA
  have h1' : w'.heap[g.k]? = some (.cells ((g.set i u x).cs a b).toArray 69 (0, 0)) := by rw [← hc u]; exact h1
  obtain ⟨k1, k2, k3⟩ := h.set hi hx h1' h2 h3 h4
  exact ⟨g.set i u x, rfl, rfl, k1, k2, k3⟩
theorem Cn.bf0 {w w' : World} {lo a b : Nat} {g : Cm} {ys : List Nat} (h : Cn w lo a b g) (hA : BfA w w' lo g.k 69 [] [g.v 1, .int .i64 ((1048576 : Nat) : Int), g.v 2, .int .i64 (b : Int), g.v 3, .bool g.x.cl, .bool g.x.ct] (g.v 0) a ys) : CnA w w' lo a b g { g.x with i := ys } :=
  h.bf (i := 0) (by omega) (fun j hj hne => by match j, hj, hne with | 1, _, _ => rfl | 2, _, _ => rfl | 3, _, _ => rfl) hA (fun u => rfl)
theorem Cn.bf1 {w w' : World} {lo a b : Nat} {g : Cm} {ys : List Nat} (h : Cn w lo a b g) (hA : BfA w w' lo g.k 69 [g.v 0, .int .i64 (a : Int)] [g.v 2, .int .i64 (b : Int), g.v 3, .bool g.x.cl, .bool g.x.ct] (g.v 1) 1048576 ys) : CnA w w' lo a b g { g.x with w := ys } :=
  h.bf (i := 1) (by omega) (fun j hj hne => by match j, hj, hne with | 0, _, _ => rfl | 2, _, _ => rfl | 3, _, _ => rfl) hA (fun u => rfl)
theorem Cn.bf2 {w w' : World} {lo a b : Nat} {g : Cm} {ys : List Nat} (h : Cn w lo a b g) (hA : BfA w w' lo g.k 69 [g.v 0, .int .i64 (a : Int), g.v 1, .int .i64 ((1048576 : Nat) : Int)] [g.v 3, .bool g.x.cl, .bool g.x.ct] (g.v 2) b ys) : CnA w w' lo a b g { g.x with o := ys } :=
  h.bf (i := 2) (by omega) (fun j hj hne => by match j, hj, hne with | 0, _, _ => rfl | 1, _, _ => rfl | 3, _, _ => rfl) hA (fun u => rfl)
theorem bfa_empty {w w' : World} {lo K : Nat} {T : TypeId} {A C : List Value} {v : Value} {room : Nat} (h : BB w' K T A C (.slice none 0 0) room) (hf : Fr w w' (fun k => k = K)) : BfA w w' lo K T A C v room [] :=
  ⟨_, h, Rw.nil _ _ _, hf.mono (fun _ _ e => Or.inl e), Nw.nil _ _⟩
/-- A slot of a connection's block. -/
theorem Cn.cells {w : World} {lo a b : Nat} {g : Cm} (h : Cn w lo a b g) : w.cell? ⟨g.k, 0, none⟩ = some (g.v 0) ∧ w.cell? ⟨g.k, 2, none⟩ = some (g.v 1) ∧ w.cell? ⟨g.k, 4, none⟩ = some (g.v 2) ∧ w.cell? ⟨g.k, 6, none⟩ = some (g.v 3) ∧ w.cell? ⟨g.k, 7, none⟩ = some (.bool g.x.cl) ∧ w.cell? ⟨g.k, 8, none⟩ = some (.bool g.x.ct) ∧ g.k < w.heap.size := by
  refine ⟨?_, ?_, ?_, ?_, ?_, ?_, lt_of_block h.cell⟩ <;> rw [cell_of_row w g.k _ _ _ (0, 0) h.cell] <;> rfl
theorem Cn.free {w : World} {lo a b : Nat} {g : Cm} (h : Cn w lo a b g) (o : Nat) : w.frozen? ⟨g.k, o, none⟩ = false := free_of h.cell o
end Go.Proofs.Ytedlpefglgleeab
