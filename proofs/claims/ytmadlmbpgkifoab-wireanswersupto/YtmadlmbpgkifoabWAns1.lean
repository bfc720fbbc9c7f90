/- What WireAnswers holds: a Writer, its bytes beside it, a Frames, two spines and two books of rows of bytes. -/
import Derived.Test.YtmadlmbpgkifoabBk2
import Derived.Test.YtmadlmbpgkifoabFnext
namespace Go.Proofs.Ytmadlmbpgkifoab
open Go.RowKit

/-- A block that is none of these three rows'. -/
def Out3 (v bv vx : Value) (k : Nat) : Prop := v.ownBlock ≠ some k ∧ bv.ownBlock ≠ some k ∧ vx.ownBlock ≠ some k

structure AW (w : World) (F : Nat) (v bv vx vK vW : Value) (tb fed : List Nat) (told : Nat) (VK VW : List Value) (VS WS : List Value) (ks xs : List (List Nat)) (wx : World) : Prop where
  wr : Wr 26 5 wx w.heap.size w.heap.size v tb
  bo : wx.ownsRow w.heap.size 5 1 bv tb.length (by8 tb)
  fz : Fz wx w.heap.size F vx 65536 fed told 0
  sk : wx.ownsRow w.heap.size 24 1 vK VS.length VS
  sw : wx.ownsRow w.heap.size 24 1 vW WS.length WS
  sp : ∀ b, vK.ownBlock = some b → vW.ownBlock ≠ some b
  k : Kp 5 wx w.heap.size VK ks
  u : Kp 5 wx w.heap.size VW xs
  cross : ∀ i j, i < ks.length → j < xs.length → ∀ b, (VK.getD i (.slice none 0 0)).ownBlock = some b → (VW.getD j (.slice none 0 0)).ownBlock ≠ some b
  ko : ∀ i, i < ks.length → ∀ b, (VK.getD i (.slice none 0 0)).ownBlock = some b → Out3 v bv vx b
  uo : ∀ j, j < xs.length → ∀ b, (VW.getD j (.slice none 0 0)).ownBlock = some b → Out3 v bv vx b
  vb : ∀ b, v.ownBlock = some b → bv.ownBlock ≠ some b
  xb : ∀ b, vx.ownBlock = some b → v.ownBlock ≠ some b ∧ bv.ownBlock ≠ some b
  FN : w.heap.size < F
  below : Below w.heap.size w wx

/-- A change of blocks that are none of what stands. -/
theorem AW.fr {w : World} {F : Nat} {v bv vx vK vW : Value} {tb fed : List Nat} {told : Nat} {VK VW VS WS : List Value} {ks xs : List (List Nat)} {wx w' : World} {S : Nat → Prop} (h : AW w F v bv vx vK vW tb fed told VK VW VS WS ks xs wx) (hf : Fr wx w' S)
    (hS : ∀ k, S k → w.heap.size < k ∧ k ≠ F ∧ Out3 v bv vx k ∧ vK.ownBlock ≠ some k ∧ vW.ownBlock ≠ some k ∧ (∀ i, i < ks.length → (VK.getD i (.slice none 0 0)).ownBlock ≠ some k) ∧ ∀ j, j < xs.length → (VW.getD j (.slice none 0 0)).ownBlock ≠ some k) :
    AW w F v bv vx vK vW tb fed told VK VW VS WS ks xs w' :=
  ⟨h.wr.fr hf (fun s => by have := (hS _ s).1; omega) (fun k hk s => (hS k s).2.2.1.1 hk), own_fr h.bo hf (fun k hk s => (hS k s).2.2.1.2.1 hk), h.fz.fr hf (fun s => (hS _ s).2.1 rfl) (fun k hk s => (hS k s).2.2.1.2.2 hk), own_fr h.sk hf (fun k hk s => (hS k s).2.2.2.1 hk), own_fr h.sw hf (fun k hk s => (hS k s).2.2.2.2.1 hk), h.sp,
    h.k.fr hf (fun i hi k hk s => (hS k s).2.2.2.2.2.1 i hi hk), h.u.fr hf (fun i hi k hk s => (hS k s).2.2.2.2.2.2 i hi hk), h.cross, h.ko, h.uo, h.vb, h.xb, h.FN, h.below.trans (hf.below h.below.size (fun k s => by have := (hS k s).1; omega))⟩
theorem AW.still {w : World} {F : Nat} {v bv vx vK vW : Value} {tb fed : List Nat} {told : Nat} {VK VW VS WS : List Value} {ks xs : List (List Nat)} {wx w' : World} (h : AW w F v bv vx vK vW tb fed told VK VW VS WS ks xs wx) (hf : Fr wx w' (fun _ => False)) : AW w F v bv vx vK vW tb fed told VK VW VS WS ks xs w' := h.fr hf (fun _ s => s.elim)
theorem AW.size {w : World} {F : Nat} {v bv vx vK vW : Value} {tb fed : List Nat} {told : Nat} {VK VW VS WS : List Value} {ks xs : List (List Nat)} {wx : World} (h : AW w F v bv vx vK vW tb fed told VK VW VS WS ks xs wx) : w.heap.size < wx.heap.size := by
  have h1 := lt_of_block h.fz.cell
  have h2 := h.FN
  omega
/-- Behind Feed or Next. -/
theorem AW.fx {w : World} {F : Nat} {v bv vx vx' vK vW : Value} {tb fed fed' : List Nat} {told told' : Nat} {VK VW VS WS : List Value} {ks xs : List (List Nat)} {wx w' : World} (h : AW w F v bv vx vK vW tb fed told VK VW VS WS ks xs wx) (hz : Fz w' w.heap.size F vx' 65536 fed' told' 0) (hf : Fr wx w' (fun k => k = F ∨ vx.ownBlock = some k)) (hn : Nw wx vx vx') :
    AW w F v bv vx' vK vW tb fed' told' VK VW VS WS ks xs w' := by
  have hFN := h.FN
  have hnew : ∀ {y : Value} {n : Nat} {ys : List Value}, wx.ownsRow w.heap.size 5 1 y n ys → (∀ b, vx.ownBlock = some b → y.ownBlock ≠ some b) → ∀ b, vx'.ownBlock = some b → y.ownBlock ≠ some b := fun ho hy b hb e => by
    rcases hn b hb with s | s
    · exact hy b s e
    · have := (ho.lt b e).2; omega
  have hrow : ∀ {y : Value} {n : Nat} {ys : List Value}, wx.ownsRow w.heap.size 5 1 y n ys → (∀ b, vx.ownBlock = some b → y.ownBlock ≠ some b) → ∀ k, y.ownBlock = some k → ¬ (k = F ∨ vx.ownBlock = some k) := fun ho hy k hk s => by
    rcases s with s | s
    · exact own_ne ho h.fz.cell (by decide) (by rw [← s]; exact hk)
    · exact hy k s hk
  have hspine : ∀ {y : Value} {n : Nat} {ys : List Value}, wx.ownsRow w.heap.size 24 1 y n ys → ∀ k, y.ownBlock = some k → ¬ (k = F ∨ vx.ownBlock = some k) := fun ho k hk s => by
    rcases s with s | s
    · exact own_ne ho h.fz.cell (by decide) (by rw [← s]; exact hk)
    · exact spine_ne8 ho h.fz.own k hk s
  refine ⟨h.wr.fr hf (fun s => ?_) (hrow h.wr.own (fun b hb => (h.xb b hb).1)), own_fr h.bo hf (hrow h.bo (fun b hb => (h.xb b hb).2)), hz, own_fr h.sk hf (hspine h.sk), own_fr h.sw hf (hspine h.sw), h.sp,
    h.k.fr hf (fun i hi => hrow (h.k.own i hi) (fun b hb e => (h.ko i hi b e).2.2 hb)), h.u.fr hf (fun i hi => hrow (h.u.own i hi) (fun b hb e => (h.uo i hi b e).2.2 hb)), h.cross,
    fun i hi b hb => ⟨(h.ko i hi b hb).1, (h.ko i hi b hb).2.1, fun e => hnew (h.k.own i hi) (fun b hb e => (h.ko i hi b e).2.2 hb) b e hb⟩, fun i hi b hb => ⟨(h.uo i hi b hb).1, (h.uo i hi b hb).2.1, fun e => hnew (h.u.own i hi) (fun b hb e => (h.uo i hi b e).2.2 hb) b e hb⟩, h.vb,
    fun b hb => ⟨hnew h.wr.own (fun b hb => (h.xb b hb).1) b hb, hnew h.bo (fun b hb => (h.xb b hb).2) b hb⟩, h.FN, h.below.trans (hf.below h.below.size (fun k s => ?_))⟩
  · rcases s with s | s
    · omega
    · exact own_ne h.fz.own h.wr.cell (by decide) s
  · rcases s with s | s
    · omega
    · exact (h.fz.own.lt k s).1
/-- A new kept row. -/
theorem AW.keep {w : World} {F : Nat} {v bv vx vK vW nv : Value} {tb fed : List Nat} {told : Nat} {VK VW VS WS : List Value} {ks xs : List (List Nat)} {wx w' : World} {x : List Nat} (h : AW w F v bv vx vK vW tb fed told VK VW VS WS ks xs wx) (hf : Fr wx w' (fun _ => False)) (ho : w'.ownsRow wx.heap.size 5 1 nv x.length (by8 x)) : AW w F v bv vx vK vW tb fed told (VK ++ [nv]) VW VS WS (ks ++ [x]) xs w' := by
  have hs := h.size
  have h' := h.still hf
  have hk := h.k.vlen
  have hn : ∀ b, nv.ownBlock = some b → wx.heap.size ≤ b := fun b hb => (ho.lt b hb).1
  refine ⟨h'.wr, h'.bo, h'.fz, h'.sk, h'.sw, h.sp, h'.k.snoc (own_mono ho (by omega)) (fun i hi b hb e => by have := (h.k.lt hi hb).2; have := hn b e; omega), h'.u, fun i j hi hj b hb e => ?_, fun i hi b hb => ?_, h.uo, h.vb, h.xb, h.FN, h'.below⟩
  · rw [List.length_append, List.length_singleton] at hi
    rw [getD_snoc, hk] at hb
    by_cases h1 : i < ks.length
    · rw [if_pos h1] at hb
      exact h.cross i j h1 hj b hb e
    · rw [if_neg h1, if_pos (show i = ks.length by omega)] at hb
      have := (h.u.lt hj e).2
      have := hn b hb
      omega
  · rw [List.length_append, List.length_singleton] at hi
    rw [getD_snoc, hk] at hb
    by_cases h1 : i < ks.length
    · rw [if_pos h1] at hb
      exact h.ko i h1 b hb
    · rw [if_neg h1, if_pos (show i = ks.length by omega)] at hb
      have hb2 := hn b hb
      exact ⟨fun e => by have := (h.wr.own.lt b e).2; omega, fun e => by have := (h.bo.lt b e).2; omega, fun e => by have := (h.fz.own.lt b e).2; omega⟩
/-- A new row of what should be. -/
theorem AW.want {w : World} {F : Nat} {v bv vx vK vW nv : Value} {tb fed : List Nat} {told : Nat} {VK VW VS WS : List Value} {ks xs : List (List Nat)} {wx w' : World} {x : List Nat} (h : AW w F v bv vx vK vW tb fed told VK VW VS WS ks xs wx) (hf : Fr wx w' (fun _ => False)) (ho : w'.ownsRow wx.heap.size 5 1 nv x.length (by8 x)) : AW w F v bv vx vK vW tb fed told VK (VW ++ [nv]) VS WS ks (xs ++ [x]) w' := by
  have hs := h.size
  have h' := h.still hf
  have hk := h.u.vlen
  have hn : ∀ b, nv.ownBlock = some b → wx.heap.size ≤ b := fun b hb => (ho.lt b hb).1
  refine ⟨h'.wr, h'.bo, h'.fz, h'.sk, h'.sw, h.sp, h'.k, h'.u.snoc (own_mono ho (by omega)) (fun i hi b hb e => by have := (h.u.lt hi hb).2; have := hn b e; omega), fun i j hi hj b hb e => ?_, h.ko, fun i hi b hb => ?_, h.vb, h.xb, h.FN, h'.below⟩
  · rw [List.length_append, List.length_singleton] at hj
    rw [getD_snoc, hk] at e
    by_cases h1 : j < xs.length
    · rw [if_pos h1] at e
      exact h.cross i j hi h1 b hb e
    · rw [if_neg h1, if_pos (show j = xs.length by omega)] at e
      have := (h.k.lt hi hb).2
      have := hn b e
      omega
  · rw [List.length_append, List.length_singleton] at hi
    rw [getD_snoc, hk] at hb
    by_cases h1 : i < xs.length
    · rw [if_pos h1] at hb
      exact h.uo i h1 b hb
    · rw [if_neg h1, if_pos (show i = xs.length by omega)] at hb
      have hb2 := hn b hb
      exact ⟨fun e => by have := (h.wr.own.lt b e).2; omega, fun e => by have := (h.bo.lt b e).2; omega, fun e => by have := (h.fz.own.lt b e).2; omega⟩
/-- What a spine's block is apart from. -/
theorem AW.spineK {w : World} {F : Nat} {v bv vx vK vW : Value} {tb fed : List Nat} {told : Nat} {VK VW VS WS : List Value} {ks xs : List (List Nat)} {wx : World} (h : AW w F v bv vx vK vW tb fed told VK VW VS WS ks xs wx) {y : Value} {n : Nat} {ys : List Value} (hy : wx.ownsRow w.heap.size 24 1 y n ys) :
    ∀ k, y.ownBlock = some k → w.heap.size < k ∧ k ≠ F ∧ Out3 v bv vx k ∧ (∀ i, i < ks.length → (VK.getD i (.slice none 0 0)).ownBlock ≠ some k) ∧ ∀ j, j < xs.length → (VW.getD j (.slice none 0 0)).ownBlock ≠ some k := fun k hk =>
  ⟨by
    have h1 := (hy.lt k hk).1
    rcases Nat.lt_or_ge w.heap.size k with h2 | h2
    · exact h2
    · exact absurd (by rw [show w.heap.size = k by omega]; exact hk) (own_ne hy h.wr.cell (by decide)),
  fun e => own_ne hy h.fz.cell (by decide) (by rw [← e]; exact hk), ⟨spine_ne8 hy h.wr.own k hk, spine_ne8 hy h.bo k hk, spine_ne8 hy h.fz.own k hk⟩, fun i hi => spine_ne8 hy (h.k.own i hi) k hk, fun j hj => spine_ne8 hy (h.u.own j hj) k hk⟩
theorem AW.growK {w : World} {F : Nat} {v bv vx vK vW vK' : Value} {tb fed : List Nat} {told : Nat} {VK VW VS WS : List Value} {ks xs : List (List Nat)} {wx wy : World} {news : List Value} (h : AW w F v bv vx vK vW tb fed told VK VW VS WS ks xs wx) (o : Obj)
    (hown : wy.ownsRow w.heap.size 24 1 vK' (VS.length + news.length) (VS ++ news)) (hg : (wx.alloc o).grownBy wy vK.ownBlock) (hat : vK'.ownBlock = vK.ownBlock ∨ vK'.ownBlock = some (wx.alloc o).heap.size) : AW w F v bv vx vK' vW tb fed told VK VW (VS ++ news) WS ks xs wy := by
  have hf : Fr wx wy (fun k => vK.ownBlock = some k) := (alloc_fr wx o _).grown hg (fun k _ e => e)
  have hK := h.spineK h.sk
  refine ⟨h.wr.fr hf (fun s => by have := (hK _ s).1; omega) (fun k hk s => (hK k s).2.2.1.1 hk), own_fr h.bo hf (fun k hk s => (hK k s).2.2.1.2.1 hk), h.fz.fr hf (fun s => (hK _ s).2.1 rfl) (fun k hk s => (hK k s).2.2.1.2.2 hk), by rw [List.length_append]; exact hown, own_fr h.sw hf (fun k hk s => h.sp k s hk), fun b hb e => ?_,
    h.k.fr hf (fun i hi k hk s => (hK k s).2.2.2.1 i hi hk), h.u.fr hf (fun i hi k hk s => (hK k s).2.2.2.2 i hi hk), h.cross, h.ko, h.uo, h.vb, h.xb, h.FN, h.below.trans (hf.below h.below.size (fun k s => by have := (hK k s).1; omega))⟩
  rcases hat with h1 | h1
  · rw [h1] at hb
    exact h.sp b hb e
  · rw [h1] at hb
    cases hb
    have := (h.sw.lt _ e).2
    simp at this
    omega
theorem AW.growW {w : World} {F : Nat} {v bv vx vK vW vW' : Value} {tb fed : List Nat} {told : Nat} {VK VW VS WS : List Value} {ks xs : List (List Nat)} {wx wy : World} {news : List Value} (h : AW w F v bv vx vK vW tb fed told VK VW VS WS ks xs wx) (o : Obj)
    (hown : wy.ownsRow w.heap.size 24 1 vW' (WS.length + news.length) (WS ++ news)) (hg : (wx.alloc o).grownBy wy vW.ownBlock) (hat : vW'.ownBlock = vW.ownBlock ∨ vW'.ownBlock = some (wx.alloc o).heap.size) : AW w F v bv vx vK vW' tb fed told VK VW VS (WS ++ news) ks xs wy := by
  have hf : Fr wx wy (fun k => vW.ownBlock = some k) := (alloc_fr wx o _).grown hg (fun k _ e => e)
  have hK := h.spineK h.sw
  refine ⟨h.wr.fr hf (fun s => by have := (hK _ s).1; omega) (fun k hk s => (hK k s).2.2.1.1 hk), own_fr h.bo hf (fun k hk s => (hK k s).2.2.1.2.1 hk), h.fz.fr hf (fun s => (hK _ s).2.1 rfl) (fun k hk s => (hK k s).2.2.1.2.2 hk), own_fr h.sk hf (fun k hk s => h.sp k hk s), by rw [List.length_append]; exact hown, fun b hb e => ?_,
    h.k.fr hf (fun i hi k hk s => (hK k s).2.2.2.1 i hi hk), h.u.fr hf (fun i hi k hk s => (hK k s).2.2.2.2 i hi hk), h.cross, h.ko, h.uo, h.vb, h.xb, h.FN, h.below.trans (hf.below h.below.size (fun k s => by have := (hK k s).1; omega))⟩
  rcases hat with h1 | h1
  · rw [h1] at e
    exact h.sp b hb e
  · rw [h1] at e
    cases e
    have := (h.sk.lt _ hb).2
    simp at this
    omega
/-- Ahead of apart, and behind it. -/
theorem AW.bb {w : World} {F : Nat} {v bv vx vK vW : Value} {tb fed : List Nat} {told : Nat} {VK VW : List Value} {xs : List (List Nat)} {wx : World} {n : Nat} (h : AW w F v bv vx vK vW tb fed told VK VW VK VW xs xs wx) (hn : xs.length = n) (hs : ∀ i, (xs.getD i []).length ≤ 70368744177664) : BB w.heap.size wx wx vK vW VK VW xs xs n := by
  subst hn
  have h1 := h.sk
  have h2 := h.sw
  rw [h.k.vlen] at h1
  rw [h.u.vlen] at h2
  exact ⟨Fr.refl _ _, h1, h2, h.sp, h.k, h.u, h.cross, rfl, rfl, h.below.size, hs⟩
theorem AW.back {w : World} {F : Nat} {v bv vx vK vW : Value} {tb fed : List Nat} {told : Nat} {VK VW : List Value} {ks xs : List (List Nat)} {wx w' : World} {n : Nat} (h : AW w F v bv vx vK vW tb fed told VK VW VK VW xs xs wx) (hn : xs.length = n) (hb : BB w.heap.size wx w' vK vW VK VW ks xs n) : AW w F v bv vx vK vW tb fed told VK VW VK VW ks xs w' := by
  have hK : ∀ k, (∃ i, i < n ∧ (VK.getD i (.slice none 0 0)).ownBlock = some k) → w.heap.size < k ∧ k ≠ F ∧ Out3 v bv vx k := fun k ⟨i, hi, hk⟩ => by
    have hi' : i < xs.length := by omega
    have ho := h.k.own i hi'
    refine ⟨?_, fun e => own_ne ho h.fz.cell (by decide) (by rw [← e]; exact hk), h.ko i hi' k hk⟩
    have h1 := (ho.lt k hk).1
    rcases Nat.lt_or_ge w.heap.size k with h2 | h2
    · exact h2
    · exact absurd (by rw [show w.heap.size = k by omega]; exact hk) (own_ne ho h.wr.cell (by decide))
  have h1 := hb.sk
  have h2 := hb.sw
  have hvk : VK.length = n := by rw [h.k.vlen, hn]
  have hvw : VW.length = n := by rw [h.u.vlen, hn]
  exact ⟨h.wr.fr hb.fr (fun s => by have := (hK _ s).1; omega) (fun k hk s => (hK k s).2.2.1 hk), own_fr h.bo hb.fr (fun k hk s => (hK k s).2.2.2.1 hk), h.fz.fr hb.fr (fun s => (hK _ s).2.1 rfl) (fun k hk s => (hK k s).2.2.2.2 hk), by rw [hvk]; exact h1, by rw [hvw]; exact h2, h.sp, hb.k, hb.u, fun i j hi hj => hb.cross i j (by rw [← hb.klen]; exact hi) (by rw [← hb.len]; exact hj), fun i hi => h.ko i (by rw [hn, ← hb.klen]; exact hi), h.uo, h.vb, h.xb, h.FN, h.below.trans (hb.fr.below h.below.size (fun k s => by have := (hK k s).1; omega))⟩
end Go.Proofs.Ytmadlmbpgkifoab
