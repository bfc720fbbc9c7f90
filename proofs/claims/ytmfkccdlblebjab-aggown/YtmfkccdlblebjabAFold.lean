/- agg.Fold: what it answers, as a plain function, and its walk. -/
import Derived.Test.YtmfkccdlblebjabAAgg
namespace Go.Proofs.Ytmfkccdlblebjab
open Go.RowKit

def foldE : Ag → List Int → Except (Int × Int) Ag
  | a, [] => .ok a
  | a, x :: xs => match putE a x with
    | .error p => .error p
    | .ok b => foldE b xs
theorem foldE_snoc (a : Ag) (xs : List Int) (x : Int) : foldE a (xs ++ [x]) = match foldE a xs with | .error p => .error p | .ok b => putE b x := by
  induction xs generalizing a with
  | nil =>
    simp only [List.nil_append, foldE]
    cases putE a x <;> rfl
  | cons y ys ih =>
    simp only [List.cons_append, foldE]
    cases putE a y with
    | error p => rfl
    | ok b => exact ih b
theorem foldE_front {a : Ag} {xs ys : List Int} {p : Int × Int} (h : foldE a xs = .error p) : foldE a (xs ++ ys) = .error p := by
  induction xs generalizing a with
  | nil => simp [foldE] at h
  | cons y xs ih =>
    simp only [List.cons_append, foldE] at h ⊢
    cases hp : putE a y with
    | error q => rw [hp] at h; exact h
    | ok b => rw [hp] at h; exact ih h
theorem putE_ok {a r : Ag} {x : Int} (ha : a.ok) (hx : fits x) (h : putE a x = .ok r) : r.ok := by
  unfold putE at h
  split at h
  · exact joinE_ok (a := ⟨a.c, a.s, x, x⟩) (b := ⟨1, x, x, x⟩) ⟨ha.1, ha.2.1, hx, hx⟩ ⟨(by decide : fits 1), hx, hx, hx⟩ h
  · exact joinE_ok ha (b := ⟨1, x, x, x⟩) ⟨(by decide : fits 1), hx, hx, hx⟩ h

/-- Block B holds an aggregate. -/
def AgAt (w : World) (B : Nat) (a : Ag) : Prop := w.heap[B]? = some (.cells #[.int .i64 a.c, .int .i64 a.s, .int .i64 a.lo, .int .i64 a.hi] 25 (0, 0))
theorem AgAt.cells {w : World} {B : Nat} {a : Ag} (h : AgAt w B a) : w.cell? ⟨B, 0, none⟩ = some (.int .i64 a.c) ∧ w.cell? ⟨B, 1, none⟩ = some (.int .i64 a.s) ∧ w.cell? ⟨B, 2, none⟩ = some (.int .i64 a.lo) ∧ w.cell? ⟨B, 3, none⟩ = some (.int .i64 a.hi) ∧ ∀ o, w.frozen? ⟨B, o, none⟩ = false := by
  have h' : w.heap[B]? = some (.cells #[.int .i64 a.c, .int .i64 a.s, .int .i64 a.lo, .int .i64 a.hi] 25 (0, 0)) := h
  refine ⟨?_, ?_, ?_, ?_, fun o => ?_⟩
  · simp [World.cell?, h']
  · simp [World.cell?, h']
  · simp [World.cell?, h']
  · simp [World.cell?, h']
  · simp [World.frozen?, h']
theorem AgAt.lt {w : World} {B : Nat} {a : Ag} (h : AgAt w B a) : B < w.heap.size := lt_of_block h
theorem AgAt.fr {w w' : World} {S : Nat → Prop} {B : Nat} {a : Ag} (h : AgAt w B a) (hf : Fr w w' S) (hS : ¬ S B) : AgAt w' B a := by
  unfold AgAt
  rw [hf.block B h.lt hS]
  exact h
theorem AgAt.set {w : World} {B : Nat} {a : Ag} (h : AgAt w B a) (b : Ag) : AgAt ((((w.setCell ⟨B, 0, none⟩ (.int .i64 b.c)).setCell ⟨B, 1, none⟩ (.int .i64 b.s)).setCell ⟨B, 2, none⟩ (.int .i64 b.lo)).setCell ⟨B, 3, none⟩ (.int .i64 b.hi)) B b := by
  unfold AgAt
  rw [heap_setCell_same _ B 3 _ _ _ (heap_setCell_same _ B 2 _ _ _ (heap_setCell_same _ B 1 _ _ _ (heap_setCell_same w B 0 _ _ _ h)))]
  simp

theorem fr_set4' (w : World) (B : Nat) (u0 u1 u2 u3 : Value) : Fr w ((((w.setCell ⟨B, 0, none⟩ u0).setCell ⟨B, 1, none⟩ u1).setCell ⟨B, 2, none⟩ u2).setCell ⟨B, 3, none⟩ u3) (fun k => k = B) := by
  have h0 : Fr w w (fun k => k = B) := Fr.refl w _
  have h1 := h0.setCell (p := ⟨B, 0, none⟩) (fun _ => rfl) u0
  have h2 := h1.setCell (p := ⟨B, 1, none⟩) (fun _ => rfl) u1
  have h3 := h2.setCell (p := ⟨B, 2, none⟩) (fun _ => rfl) u2
  exact h3.setCell (p := ⟨B, 3, none⟩) (fun _ => rfl) u3
/-- Numbers that can be read at a slice. -/
def Is (w : World) (v : Value) (xs : List Int) : Prop :=
  ∃ ao cap, v = .slice ao xs.length cap ∧ xs.length ≤ 140737488355328 ∧ (∀ x ∈ xs, fits x) ∧ (xs ≠ [] → ∃ (b off : Nat), ao = some ⟨b, off, none⟩ ∧ ∀ i, i < xs.length → w.cell? ⟨b, off + i, none⟩ = some (.int .i64 (xs.getD i 0)))

/-- What stands in Fold's rounds. -/
structure FoldIn (w wr : World) (a : Ag) (xs : List Int) : Prop where
  fr : Fr w wr (fun _ => False)
  r : AgAt wr w.heap.size Ag.zero
  all : AgAt wr (w.heap.size + 1) a
  at_ : foldE Ag.zero xs = .ok a
  fine : a.ok

theorem take_get (xs : List Int) (k : Nat) (h : k < xs.length) : xs.take (k + 1) = xs.take k ++ [xs.getD k 0] := by
  rw [List.take_succ_eq_append_getElem h]
  simp [List.getD, h]

set_option maxHeartbeats 1000000 in
theorem fold_any (v : Value) (xs : List Int) (w : World) (hv : Is w v xs) : Calls Try.prog 8 #[v] w (Ans w (foldE Ag.zero xs)) := by
  obtain ⟨ao, cap, rfl, hlen, hfit, hcell⟩ := hv
  have HC := hid hcell
  have HFT := hid hfit
  clear hcell hfit
  have HI : Hid (FoldIn w ((w.alloc (.cells #[.int .i64 0, .int .i64 0, .int .i64 0, .int .i64 0] 25)).alloc (.cells #[.int .i64 0, .int .i64 0, .int .i64 0, .int .i64 0] 25)) Ag.zero []) :=
    ⟨(alloc_fr _ _ _).alloc _, by
      unfold AgAt
      rw [Below.heap_alloc _ _ _ (by simp)]
      exact heap_last _ _ _ rfl, heap_last _ _ _ (by simp), rfl, by decide, by decide, by decide, by decide⟩
  go_enter Try.func8, Try.ntmps8
  go_wp2_with fail
  go_loopw [11] (fun i wr => ∃ (k : Nat) (a : Ag), k ≤ xs.length ∧ i = .int .i64 (k : Int) ∧ Hid (FoldIn w wr a (xs.take k))) (fun i _ => xs.length - (intOf i).toNat)
  case atStart => exact ⟨0, _, Nat.zero_le _, rfl, HI⟩
  case round =>
    clear HI
    obtain ⟨k, a, hk, rfl, HI⟩ := hrel
    obtain ⟨c0, c1, c2, c3, c4⟩ := HI.out.all.cells
    obtain ⟨d0, d1, d2, d3, d4⟩ := HI.out.r.cells
    by_cases hlt : k < xs.length
    · obtain ⟨b, off, rfl, hck⟩ := HC.out (by intro e; subst e; simp at hlt)
      have t1 : (k : Int) < (xs.length : Int) := by omega
      have hxk : wr.cell? ⟨b, off + k, none⟩ = some (.int .i64 (xs.getD k 0)) := by
        have h0 := hck k hlt
        rw [(fr_rules HI.out.fr).1 b (off + k) (World.block_lt_of_cell? w _ h0)]
        exact h0
      have hxf : fits (xs.getD k 0) := HFT.out _ (by simp only [List.getD, List.getElem?_eq_getElem hlt, Option.getD_some]; exact List.getElem_mem hlt)
      have HE : Hid (foldE Ag.zero (xs.take (k + 1)) = putE a (xs.getD k 0)) := by
        show foldE Ag.zero (xs.take (k + 1)) = putE a (xs.getD k 0)
        rw [take_get xs k hlt, foldE_snoc, HI.out.at_]
      generalize xs.getD k 0 = x at *
      have HPO := hid (fun r => putE_ok (r := r) HI.out.fine hxf)
      have HPUT := hid (put_any a x HI.out.fine hxf wr)
      generalize putE a x = r at HE HPO HPUT
      clear hck
      go_wp2_with fail
      refine HPUT.out.mono ?_
      rintro e w1 ⟨hf, hr⟩
      have hl2 := HI.out.all.lt
      have hz : w.heap.size + 1 < w1.heap.size := by have := hf.size; omega
      have hz0 : w.heap.size < w1.heap.size := by omega
      have HF := hid hf
      clear c0 c1 c2 c3 c4 d0 d1 d2 d3 d4
      obtain ⟨c0, c1, c2, c3, c4⟩ := (HI.out.all.fr hf (fun h => h)).cells
      obtain ⟨d0, d1, d2, d3, d4⟩ := (HI.out.r.fr hf (fun h => h)).cells
      have hge0 : wr.heap.size ≤ w1.heap.size := hf.size
      clear hf HPUT
      cases r with
      | ok r =>
        have hr := hr.symm
        subst hr
        go_wp2_with fail
        go_roundw
        case rel =>
          refine ⟨k + 1, r, by omega, by go_num, ?_⟩
          refine hid ⟨(fr_set4 (HI.out.fr.trans HF.out) (by omega) _ _ _ _).alloc _, ?_, ?_, HE.out, HPO.out r rfl⟩
          · exact ((HI.out.r.fr HF.out (fun h => h)).fr (fr_set4' _ _ _ _ _ _) (by omega)).fr (alloc_fr _ _ (fun _ => False)) (fun h => h)
          · exact ((HI.out.all.fr HF.out (fun h => h)).set r).fr (alloc_fr _ _ (fun _ => False)) (fun h => h)
        case measure => simp [intOf]; omega
      | error p =>
        obtain ⟨b, rfl, hb, hge⟩ := hr
        have HB := hid hb
        clear hb
        unfold overV
        go_wp2_with fail
        have he : foldE Ag.zero xs = .error p := by
          have := foldE_front (ys := xs.drop (k + 1)) HE.out
          rwa [List.take_append_drop] at this
        have hbl := lt_of_block HB.out
        rw [he]
        exact bodyPost_ret (v := .tuple #[.agg #[.int .i64 0, .int .i64 0, .int .i64 0, .int .i64 0], overV b]) (by simp [results, Try.results8, go_sem, d0, d1, d2, d3, overV, hz0]) rfl
          ⟨(fr_set4 (HI.out.fr.trans HF.out) (Nat.le_refl _) _ _ _ _).alloc _, b, rfl, (Below.heap_alloc _ _ _ (by simpa [World.setCell] using hbl)).trans ((heap_set4 (by omega) _ _ _ _).trans HB.out), by omega⟩
    · have t1 : ¬ (k : Int) < (xs.length : Int) := by omega
      go_wp2_with fail
      have e : xs.take k = xs := List.take_of_length_le (by omega)
      have he := HI.out.at_
      rw [e] at he
      rw [he]
      exact bodyPost_ret (v := .tuple #[.agg #[.int .i64 a.c, .int .i64 a.s, .int .i64 a.lo, .int .i64 a.hi], .nilIface]) (by simp [results, Try.results8, go_sem, d0, d1, d2, d3]) rfl ⟨fr_set4 HI.out.fr (Nat.le_refl _) _ _ _ _, rfl⟩
end Go.Proofs.Ytmfkccdlblebjab
