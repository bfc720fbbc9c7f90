/- MergeRows: what is asked of Rows there. -/
import Derived.Test.YtilgkfpicdmkkaaMKeptR
import Derived.Test.YtilgkfpicdmkkaaMRLists
import Derived.Test.YtilgkfpicdmkkaaMRArgs
namespace Go.Proofs.Ytilgkfpicdmkkaa.M
open Go.RowKit

theorem rows_litv {w V U : World} {us : List Value} {ls : List (List Rw)} (most : Int) (hl : us.length = ls.length) (hb : us.length ≤ 1000) (hf : Fr w V (fun _ => False)) (h : ∀ p (hp : p < us.length) (hq : p < ls.length), V.ownsRow w.heap.size 54 7 us[p] ls[p].length (rc ls[p])) (ht : tot ls ≤ 1000000000) (hu : Fr (V.alloc (.cells us.toArray 22)) U (fun _ => False)) :
    Calls Try.prog 10 #[.int .i64 most, .slice (some ⟨V.heap.size, 0, none⟩) us.length us.length] U fun e w' => ∃ v, e = .returned v ∧ M.W.Ro7 V w' v ((merged M.W.cmE ls).take most.toNat) := by
  have hs := (lit_sp hl hb hf h).step hu
  obtain ⟨sv, hat⟩ := hs.at (by omega)
  refine (M.W.rows_any most _ hat ht).mono ?_
  rintro e w' ⟨v, rfl, hr⟩
  exact ⟨v, rfl, Ro7.behind hr ((alloc_fr V _ _).trans hu)⟩
theorem rows3v {w V U : World} {u1 u2 u3 : Value} {l1 l2 l3 : List Rw} (most : Int) (hf : Fr w V (fun _ => False)) (h1 : V.ownsRow w.heap.size 54 7 u1 l1.length (rc l1)) (h2 : V.ownsRow w.heap.size 54 7 u2 l2.length (rc l2)) (h3 : V.ownsRow w.heap.size 54 7 u3 l3.length (rc l3)) (ht : tot [l1, l2, l3] ≤ 1000000) (hu : Fr (V.alloc (.cells #[u1, u2, u3] 22)) U (fun _ => False)) :
    Calls Try.prog 10 #[.int .i64 most, .slice (some ⟨V.heap.size, 0, none⟩) 3 3] U fun e w' => ∃ v, e = .returned v ∧ M.W.Ro7 V w' v ((merged M.W.cmE [l1, l2, l3]).take most.toNat) :=
  rows_litv (us := [u1, u2, u3]) (ls := [l1, l2, l3]) most rfl (by simp) hf (fun p hp hq => by
    match p, hp with
    | 0, _ => exact h1
    | 1, _ => exact h2
    | 2, _ => exact h3) (by omega) hu
theorem rows1v {w V U : World} {u1 : Value} {l1 : List Rw} (most : Int) (hf : Fr w V (fun _ => False)) (h1 : V.ownsRow w.heap.size 54 7 u1 l1.length (rc l1)) (ht : tot [l1] ≤ 1000000) (hu : Fr (V.alloc (.cells #[u1] 22)) U (fun _ => False)) :
    Calls Try.prog 10 #[.int .i64 most, .slice (some ⟨V.heap.size, 0, none⟩) 1 1] U fun e w' => ∃ v, e = .returned v ∧ M.W.Ro7 V w' v ((merged M.W.cmE [l1]).take most.toNat) :=
  rows_litv (us := [u1]) (ls := [l1]) most rfl (by simp) hf (fun p hp hq => by
    match p, hp with
    | 0, _ => exact h1) (by omega) hu
theorem rows0 (most : Int) (W : World) : Calls Try.prog 10 #[.int .i64 most, .slice none 0 0] W fun e w' => ∃ a c, e = .returned (.slice a 0 c) ∧ Fr W w' (fun _ => False) := by
  have hat : M.W.LsAt W (fun _ => ⟨0, 0, 0⟩) [] (.slice none 0 0) := ⟨none, 0, rfl, by simp, fun p => ⟨by simp [M.W.gl], by simp, fun j hj => by simp [M.W.gl] at hj⟩, fun h => by simp at h⟩
  refine (M.W.rows_any most W hat (by simp [tot])).mono ?_
  rintro e w' ⟨v, rfl, hr⟩
  obtain ⟨a, c, rfl⟩ := own_nil_shape hr.1
  have e0 : ((merged M.W.cmE []).take most.toNat).length = 0 := by
    rw [List.length_take, merged_len M.W.cmE_cm]
    simp [tot]
  exact ⟨a, c, by rw [e0], hr.2⟩
/-- The first of three lists alone. -/
theorem SpR.first {w W : World} {N : Nat} {u1 u2 u3 : Value} {l1 l2 l3 : List Rw} (h : SpR w W (.slice (some ⟨N, 0, none⟩) 3 3) [u1, u2, u3] [l1, l2, l3]) : SpR w W (.slice (some ⟨N, 0, none⟩) 1 3) [u1] [l1] := by
  refine ⟨?_, rfl, fun p hp hq => ?_, h.fr⟩
  · rcases h.own.2 with ⟨h0, _⟩ | ⟨g, cap, cur, e, hb, hg, hn, hm, hcs, htake⟩
    · simp at h0
    · simp only [Value.slice.injEq, Option.some.injEq, Addr.mk.injEq, and_true] at e
      obtain ⟨rfl, _, rfl⟩ := e
      refine ⟨rfl, Or.inr ⟨N, 3, cur, rfl, hb, hg, by simp, hm, hcs, ?_⟩⟩
      have h5 := congrArg (List.take 1) htake
      rw [List.take_take] at h5
      exact h5
  · match p, hp with
    | 0, _ => exact h.each 0 (by simp) (by simp)
/-- What stands ahead of the last test: three lists, three lent, one told. -/
structure MR (w V : World) (N g1 g2 g3 : Nat) (u1 u2 u3 vg : Value) (X Y Z P : List Rw) : Prop where
  sp : SpR w V (.slice (some ⟨N, 0, none⟩) 3 3) [u1, u2, u3] [X, Y, Z]
  x : Row7 V g1 (lentL X 3)
  y : Row7 V g2 (lentL Y 3)
  z : Row7 V g3 (lentL Z 3)
  got : V.ownsRow (g3 + 1) 54 7 vg P.length (rc P)
  lt : w.heap.size ≤ g1 ∧ g1 < g2 ∧ g2 < g3
  below : ∀ u ∈ [u1, u2, u3], ∀ k, u.ownBlock = some k → k < g1
theorem MR.spf {w V W : World} {N g1 g2 g3 : Nat} {u1 u2 u3 vg : Value} {X Y Z P : List Rw} (h : MR w V N g1 g2 g3 u1 u2 u3 vg X Y Z P) (hf : Fr V W (fun b => b = g1 ∨ b = g2 ∨ b = g3)) : SpR w W (.slice (some ⟨N, 0, none⟩) 3 3) [u1, u2, u3] [X, Y, Z] := by
  obtain ⟨l1, l2, l3⟩ := h.lt
  have hne : ∀ k, k = g1 ∨ k = g2 ∨ k = g3 → Value.ownBlock (.slice (some ⟨N, 0, none⟩) 3 3) ≠ some k := fun k hk => by
    rcases hk with rfl | rfl | rfl
    · exact own_ne h.sp.own h.x (by decide)
    · exact own_ne h.sp.own h.y (by decide)
    · exact own_ne h.sp.own h.z (by decide)
  refine ⟨own_fr h.sp.own hf (fun k hk e => hne k e hk), rfl, fun p hp hq => ?_, h.sp.fr.trans2 hf (fun i hi e => by omega)⟩
  have key : ∀ u ∈ [u1, u2, u3], ∀ {n : Nat} {xs : List Value}, V.ownsRow w.heap.size 54 7 u n xs → W.ownsRow w.heap.size 54 7 u n xs := fun u hu _ _ ho => own_fr ho hf (fun k hk e => by have := h.below u hu k hk; omega)
  match p, hp with
  | 0, _ => exact key u1 (by simp) (h.sp.each 0 (by simp) (by simp))
  | 1, _ => exact key u2 (by simp) (h.sp.each 1 (by simp) (by simp))
  | 2, _ => exact key u3 (by simp) (h.sp.each 2 (by simp) (by simp))
theorem MR.gotf {w V W : World} {N g1 g2 g3 : Nat} {u1 u2 u3 vg : Value} {X Y Z P : List Rw} (h : MR w V N g1 g2 g3 u1 u2 u3 vg X Y Z P) (hf : Fr V W (fun b => b = g1 ∨ b = g2 ∨ b = g3)) (hp : P.length ≤ 1000000) : RdR W vg P :=
  RdR.of (own_fr h.got hf (fun k hk e => by have := (h.got.lt k hk).1; have := h.lt; omega)) (by omega)
theorem MR.step {w V W : World} {N g1 g2 g3 : Nat} {u1 u2 u3 vg : Value} {X Y Z P : List Rw} (h : MR w V N g1 g2 g3 u1 u2 u3 vg X Y Z P) (hf : Fr V W (fun _ => False)) : MR w W N g1 g2 g3 u1 u2 u3 vg X Y Z P :=
  ⟨h.sp.step hf, h.x.fr hf (fun h => h), h.y.fr hf (fun h => h), h.z.fr hf (fun h => h), own_fr h.got hf (fun _ _ h => h), h.lt, h.below⟩
theorem MR.cells {w V W : World} {N g1 g2 g3 : Nat} {u1 u2 u3 vg : Value} {X Y Z P : List Rw} (h : MR w V N g1 g2 g3 u1 u2 u3 vg X Y Z P) (hf : Fr V W (fun b => b = g1 ∨ b = g2 ∨ b = g3)) : W.cell? ⟨N, 0, none⟩ = some u1 ∧ W.cell? ⟨N, 1, none⟩ = some u2 ∧ W.cell? ⟨N, 2, none⟩ = some u3 ∧ N < W.heap.size := by
  have h0 := (h.spf hf).own
  have hc0 := h0.cells (g := N) rfl 0 _ rfl
  have hc1 := h0.cells (g := N) rfl 1 _ rfl
  have hc2 := h0.cells (g := N) rfl 2 _ rfl
  rw [Addr.add_lit, Nat.zero_add] at hc0 hc1 hc2
  exact ⟨hc0, hc1, hc2, World.block_lt_of_cell? _ _ hc0⟩
end Go.Proofs.Ytilgkfpicdmkkaa.M
