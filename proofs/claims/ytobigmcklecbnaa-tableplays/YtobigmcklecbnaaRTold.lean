/- told: one step of both tables: a walk. -/
import Derived.Test.YtobigmcklecbnaaRPAll
import Derived.Test.YtobigmcklecbnaaTTwins
namespace Go.Proofs.Ytobigmcklecbnaa
open Go.RowKit

/-- A table and the document's, apart, at new blocks. -/
structure Pt (w0 W : World) (B C : Nat) (T R : Tb) : Prop where
  fr : Fr w0 W (fun _ => False)
  ex : ∃ gr ge hr he, TbAt W B gr ge T ∧ RfAt W C hr he R ∧ (∀ b, bl B gr ge b → w0.heap.size ≤ b) ∧ (∀ b, bl C hr he b → w0.heap.size ≤ b) ∧ (∀ b, bl B gr ge b → ¬ bl C hr he b)
theorem Pt.step {w0 W W' : World} {B C : Nat} {T R : Tb} (h : Pt w0 W B C T R) (hf : Fr W W' (fun _ => False)) : Pt w0 W' B C T R := by
  obtain ⟨gr, ge, hr, he, h1, h2, h3, h4, h5⟩ := h.ex
  exact ⟨h.fr.trans hf, gr, ge, hr, he, h1.step hf, h2.step hf, h3, h4, h5⟩
theorem bl_lt {W : World} {B gr : Nat} {ge : Option Nat} {T : Tb} (h : TbAt W B gr ge T) {b : Nat} (hb : bl B gr ge b) : b < W.heap.size := by
  obtain ⟨rv, ev, hc, hr, he⟩ := h.ex
  rcases hb with hb | hb | hb
  · rw [hb]; exact lt_of_block hc
  · rw [hb]; exact hr.lt
  · rw [hb] at he; exact he.lt
theorem rbl_lt {W : World} {B gr : Nat} {ge : Option Nat} {T : Tb} (h : RfAt W B gr ge T) {b : Nat} (hb : bl B gr ge b) : b < W.heap.size := by
  obtain ⟨rv, ev, hc, hr, he⟩ := h.ex
  rcases hb with hb | hb | hb
  · rw [hb]; exact lt_of_block hc
  · rw [hb]; exact hr.lt
  · rw [hb] at he; exact he.lt
/-- None of a table's blocks is a block of steps. -/
theorem bl_not {W : World} {B gr : Nat} {ge : Option Nat} {T : Tb} (h : TbAt W B gr ge T) {D : Nat} {cs : Array Value} (hD : W.heap[D]? = some (.cells cs 36 (0, 0))) : ¬ bl B gr ge D := by
  obtain ⟨rv, ev, hc, hr, he⟩ := h.ex
  have key : ∀ {g : Nat} {L : List Pl} {v : Value}, Ro W L v (some g) → g ≠ D := by
    rintro g L v ⟨cap, rest, _, hR, _⟩ rfl
    unfold RowG at hR
    rw [hD] at hR
    simp at hR
  rintro (hb | hb | hb)
  · rw [hb, hc] at hD
    simp at hD
  · exact key hr hb.symm
  · rw [hb] at he; exact key he rfl
theorem rbl_not {W : World} {B gr : Nat} {ge : Option Nat} {T : Tb} (h : RfAt W B gr ge T) {D : Nat} {cs : Array Value} (hD : W.heap[D]? = some (.cells cs 36 (0, 0))) : ¬ bl B gr ge D := by
  obtain ⟨rv, ev, hc, hr, he⟩ := h.ex
  have key : ∀ {g : Nat} {L : List Pl} {v : Value}, Rh W L v (some g) → g ≠ D := by
    rintro g L v ⟨cap, rest, _, hR, _⟩ rfl
    unfold RowH at hR
    rw [hD] at hR
    simp at hR
  rintro (hb | hb | hb)
  · rw [hb, hc] at hD
    simp at hD
  · exact key hr hb.symm
  · rw [hb] at he; exact key he rfl
/-- Both, and a step beside them. -/
structure Pu (w0 W : World) (B C D : Nat) (s : Stp) (T R : Tb) : Prop where
  pt : Pt w0 W B C T R
  box : W.heap[D]? = some (.cells #[.int .i64 s.k, .int .i64 s.n, .string s.key] 36 (0, 0))
theorem Pu.step {w0 W W' : World} {B C D : Nat} {s : Stp} {T R : Tb} (h : Pu w0 W B C D s T R) (hf : Fr W W' (fun _ => False)) : Pu w0 W' B C D s T R := ⟨h.pt.step hf, (hf.block D (lt_of_block h.box) (fun h => h)).trans h.box⟩
theorem Pu.drew {w0 W : World} {B C D : Nat} {s : Stp} {T R : Tb} (h : Pu w0 W B C D s T R) : Pu w0 W.drew B C D s T R := h.step ((Fr.refl W _).drew)
theorem Pu.drewN {w0 W : World} {B C D : Nat} {s : Stp} {T R : Tb} (h : Pu w0 W B C D s T R) (n : Nat) : Pu w0 (W.drewN n) B C D s T R := h.step ((Fr.refl W _).drewN n)
theorem Pu.cells {w0 W : World} {B C D : Nat} {s : Stp} {T R : Tb} (h : Pu w0 W B C D s T R) : W.cell? ⟨D, 0, none⟩ = some (.int .i64 s.k) ∧ W.cell? ⟨D, 1, none⟩ = some (.int .i64 s.n) ∧ W.cell? ⟨D, 2, none⟩ = some (.string s.key) ∧ D < W.heap.size := by
  have hb := h.box
  refine ⟨?_, ?_, ?_, lt_of_block hb⟩ <;> simp [World.cell?, hb]
theorem Pu.turnT {w0 W W' : World} {B C D : Nat} {s : Stp} {T T' R : Tb} {gr : Nat} {ge : Option Nat} {hr : Nat} {he : Option Nat} (h : Pu w0 W B C D s T R) (h1 : TbAt W B gr ge T) (h2 : RfAt W C hr he R) (h3 : ∀ b, bl B gr ge b → w0.heap.size ≤ b) (h4 : ∀ b, bl C hr he b → w0.heap.size ≤ b) (h5 : ∀ b, bl B gr ge b → ¬ bl C hr he b)
    {gr' : Nat} {ge' : Option Nat} (hT : TbAt W' B gr' ge' T') (hN : Nb W B gr ge gr' ge') (hf : Fr W W' (bl B gr ge)) : Pu w0 W' B C D s T' R := by
  have hs := h.pt.fr.size
  refine ⟨⟨h.pt.fr.trans2 hf (fun b hb e => by have := h3 b e; omega), gr', ge', hr, he, hT, h2.fr hf (fun b hb e => h5 b e hb), fun b hb => ?_, h4, fun b hb e => ?_⟩, (hf.block D (lt_of_block h.box) (bl_not h1 h.box)).trans h.box⟩
  · rcases hN b hb with e | e
    · exact h3 b e
    · omega
  · rcases hN b hb with e2 | e2
    · exact h5 b e2 e
    · have := rbl_lt h2 e; omega
theorem Pu.turnR {w0 W W' : World} {B C D : Nat} {s : Stp} {T R R' : Tb} {gr : Nat} {ge : Option Nat} {hr : Nat} {he : Option Nat} (h : Pu w0 W B C D s T R) (h1 : TbAt W B gr ge T) (h2 : RfAt W C hr he R) (h3 : ∀ b, bl B gr ge b → w0.heap.size ≤ b) (h4 : ∀ b, bl C hr he b → w0.heap.size ≤ b) (h5 : ∀ b, bl B gr ge b → ¬ bl C hr he b)
    {hr' : Nat} {he' : Option Nat} (hT : RfAt W' C hr' he' R') (hN : Nb W C hr he hr' he') (hf : Fr W W' (bl C hr he)) : Pu w0 W' B C D s T R' := by
  have hs := h.pt.fr.size
  refine ⟨⟨h.pt.fr.trans2 hf (fun b hb e => by have := h4 b e; omega), gr, ge, hr', he', h1.fr hf (fun b hb e => h5 b hb e), hT, h3, fun b hb => ?_, fun b hb e => ?_⟩, (hf.block D (lt_of_block h.box) (rbl_not h2 h.box)).trans h.box⟩
  · rcases hN b hb with e | e
    · exact h4 b e
    · omega
  · rcases hN b e with e2 | e2
    · exact h5 b hb e2
    · have := bl_lt h1 hb; omega

theorem uput {w0 W : World} {B C D : Nat} {s : Stp} {T R : Tb} (h : Pu w0 W B C D s T R) (hI : Inv T) (hl : 2 * T.row.length ≤ 1099511627776) (key : ByteArray) (hk : key.size ≤ 9223372036854775807) (x : Int) :
    Calls Try.prog 33 #[.pointer (some ⟨B, 0, none⟩), .string key, .int .i64 x] W fun e w' => e = .returned (.tuple #[]) ∧ Pu w0 w' B C D s (putT zI T key (.int .i64 x)) R := by
  obtain ⟨gr, ge, hr, he, h1, h2, h3, h4, h5⟩ := h.pt.ex
  refine (put_any key x W h1 hI hk hl).mono ?_
  rintro e w' ⟨rfl, ⟨gr', ge', hT, hN⟩, hf⟩
  exact ⟨rfl, h.turnT h1 h2 h3 h4 h5 hT hN hf⟩
theorem urput {w0 W : World} {B C D : Nat} {s : Stp} {T R : Tb} (h : Pu w0 W B C D s T R) (hI : Inv R) (hl : 2 * R.row.length ≤ 1099511627776) (key : ByteArray) (hk : key.size ≤ 9223372036854775807) (x : Int) :
    Calls Try.prog 43 #[.pointer (some ⟨C, 0, none⟩), .string key, .int .i64 x] W fun e w' => e = .returned (.tuple #[]) ∧ Pu w0 w' B C D s T (putT zI R key (.int .i64 x)) := by
  obtain ⟨gr, ge, hr, he, h1, h2, h3, h4, h5⟩ := h.pt.ex
  refine (rput_any key x W h2 hI hk hl).mono ?_
  rintro e w' ⟨rfl, ⟨gr', ge', hT, hN⟩, hf⟩
  exact ⟨rfl, h.turnR h1 h2 h3 h4 h5 hT hN hf⟩
theorem udrop {w0 W : World} {B C D : Nat} {s : Stp} {T R : Tb} (h : Pu w0 W B C D s T R) (hI : Inv T) (key : ByteArray) (hk : key.size ≤ 9223372036854775807) :
    Calls Try.prog 44 #[.pointer (some ⟨B, 0, none⟩), .string key] W fun e w' => e = .returned (.tuple #[(dropV zI T key).1, .bool (dropV zI T key).2]) ∧ Pu w0 w' B C D s (dropT zI T key) R := by
  obtain ⟨gr, ge, hr, he, h1, h2, h3, h4, h5⟩ := h.pt.ex
  refine (drop_any key W h1 hI hk).mono ?_
  rintro e w' ⟨rfl, ⟨ge', hT, hN⟩, hf⟩
  exact ⟨rfl, h.turnT h1 h2 h3 h4 h5 hT (nb_left hN) hf⟩
theorem urdrop {w0 W : World} {B C D : Nat} {s : Stp} {T R : Tb} (h : Pu w0 W B C D s T R) (hI : Inv R) (key : ByteArray) (hk : key.size ≤ 9223372036854775807) :
    Calls Try.prog 45 #[.pointer (some ⟨C, 0, none⟩), .string key] W fun e w' => e = .returned (.tuple #[(dropV zI R key).1, .bool (dropV zI R key).2]) ∧ Pu w0 w' B C D s T (dropT zI R key) := by
  obtain ⟨gr, ge, hr, he, h1, h2, h3, h4, h5⟩ := h.pt.ex
  refine (rdrop_any key W h2 hI hk).mono ?_
  rintro e w' ⟨rfl, ⟨ge', hT, hN⟩, hf⟩
  exact ⟨rfl, h.turnR h1 h2 h3 h4 h5 hT (nb_left hN) hf⟩
theorem umove {w0 W : World} {B C D : Nat} {s : Stp} {T R : Tb} (h : Pu w0 W B C D s T R) (n : Int) :
    Calls Try.prog 35 #[.pointer (some ⟨B, 0, none⟩), .int .i64 n] W fun e w' => e = .returned (.int .i64 ((moveT zI T n).left : Int)) ∧ Pu w0 w' B C D s (moveT zI T n) R := by
  obtain ⟨gr, ge, hr, he, h1, h2, h3, h4, h5⟩ := h.pt.ex
  refine (move_any n W h1).mono ?_
  rintro e w' ⟨rfl, ⟨ge', hT, hN⟩, hf⟩
  exact ⟨rfl, h.turnT h1 h2 h3 h4 h5 hT (nb_left hN) hf⟩
theorem urmove {w0 W : World} {B C D : Nat} {s : Stp} {T R : Tb} (h : Pu w0 W B C D s T R) (n : Int) :
    Calls Try.prog 46 #[.pointer (some ⟨C, 0, none⟩), .int .i64 n] W fun e w' => e = .returned (.int .i64 ((moveT zI R n).left : Int)) ∧ Pu w0 w' B C D s T (moveT zI R n) := by
  obtain ⟨gr, ge, hr, he, h1, h2, h3, h4, h5⟩ := h.pt.ex
  refine (rmove_any n W h2).mono ?_
  rintro e w' ⟨rfl, ⟨ge', hT, hN⟩, hf⟩
  exact ⟨rfl, h.turnR h1 h2 h3 h4 h5 hT (nb_left hN) hf⟩
theorem usizes {w0 W : World} {B C : Nat} {T : Tb} (h : Pt w0 W B C T T) :
    Calls Try.prog 47 #[.pointer (some ⟨B, 0, none⟩), .pointer (some ⟨C, 0, none⟩)] W fun e w' => e = .returned (.bool true) ∧ Fr W w' (fun _ => False) := by
  obtain ⟨gr, ge, hr, he, h1, h2, h3, h4, h5⟩ := h.ex
  refine (sizes_any W h1 h2).mono ?_
  rintro e w' ⟨rfl, m, rfl⟩
  exact ⟨rfl, (Fr.refl W _).drewN m⟩
theorem ulike {w0 W : World} {B C : Nat} {T : Tb} (h : Pt w0 W B C T T) (key : ByteArray) (hk : key.size ≤ 9223372036854775807) :
    Calls Try.prog 21 #[.pointer (some ⟨B, 0, none⟩), .pointer (some ⟨C, 0, none⟩), .string key] W fun e w' => e = .returned (.bool true) ∧ Fr W w' (fun _ => False) := by
  obtain ⟨gr, ge, hr, he, h1, h2, h3, h4, h5⟩ := h.ex
  refine (like_any key W h1 h2 hk).mono ?_
  rintro e w' ⟨rfl, rfl⟩
  exact ⟨rfl, Fr.refl _ _⟩
theorem uall {w0 W : World} {B C : Nat} {T : Tb} (h : Pt w0 W B C T T) :
    Calls Try.prog 22 #[.pointer (some ⟨B, 0, none⟩), .pointer (some ⟨C, 0, none⟩)] W fun e w' => e = .returned (.bool true) ∧ Fr W w' (fun _ => False) := by
  obtain ⟨gr, ge, hr, he, h1, h2, h3, h4, h5⟩ := h.ex
  exact pall_any W h1 h2
end Go.Proofs.Ytobigmcklecbnaa
