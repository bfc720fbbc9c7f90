/- The law's copied over bytes: its walk; books that end with new rows. -/
import Derived.Test.YtmadlmbpgkifoabWAns1
import Derived.Laws.AppendOwnNone
namespace Go.Proofs.Ytmadlmbpgkifoab
open Go.RowKit

set_option maxHeartbeats 800000 in
theorem copied_any8 (v : Value) (xs : List Nat) (w : World) (hv : Bs w v xs) (hl : xs.length ≤ 70368744177664) :
    Calls Try.prog 30 #[v] w fun e w' => ∃ u, e = .returned u ∧ w'.ownsRow w.heap.size 5 1 u xs.length (by8 xs) ∧ Fr w w' (fun _ => False) := by
  obtain ⟨i0, hinfo, hz0, hz1, hz2⟩ := info_parts Try.info5
  rcases hv with ⟨rfl, rfl⟩ | ⟨ad, cap, rfl, hcell⟩
  · go_enter Try.func30, Try.ntmps30
    go_wp2_with (at_builtin; refine wpList_append_own_none rfl _ _ 24 rfl w.heap.size 5 i0 1 Try.underlying24 hinfo (.slice none 0 0) 0 [] rfl (World.ownsRow_nil _ _ _ _) rfl ?_)
    go_ret
    exact ⟨_, rfl, World.ownsRow_nil _ _ _ _, Fr.refl _ _⟩
  · have HC := bk_hid hcell
    clear hcell
    go_enter Try.func30, Try.ntmps30
    go_wp2_with (at_builtin; refine wpList_append_own _ rfl _ _ 24 rfl w.heap.size 5 i0 (.int .u8 0) 1 1 Try.underlying24 hinfo hz0 hz1 hz2 rfl (by decide) (.slice none 0 0) 0 [] rfl (World.ownsRow_nil _ _ _ _) ad xs.length cap (by8 xs) rfl (by rw [by8_length, Nat.mul_one]) HC.out (by8_one xs) (by unfold maxLen; omega) (by omega) (Nat.le_refl _) ?_; intro v' w3 hown3 hgrow3 hnil3)
    go_ret
    exact ⟨_, rfl, by simpa using hown3, (Fr.refl w _).grown hgrow3 (fun k _ e => by simp [Value.ownBlock] at e)⟩

/-- A kept row that is apart from all that stands. -/
theorem AW.keepAt {w : World} {F : Nat} {v bv vx vK vW nv : Value} {tb fed : List Nat} {told : Nat} {VK VW VS WS : List Value} {ks xs : List (List Nat)} {wx : World} {x : List Nat} (h : AW w F v bv vx vK vW tb fed told VK VW VS WS ks xs wx) (ho : wx.ownsRow w.heap.size 5 1 nv x.length (by8 x))
    (hn : ∀ b, nv.ownBlock = some b → Out3 v bv vx b ∧ (∀ i, i < ks.length → (VK.getD i (.slice none 0 0)).ownBlock ≠ some b) ∧ ∀ j, j < xs.length → (VW.getD j (.slice none 0 0)).ownBlock ≠ some b) : AW w F v bv vx vK vW tb fed told (VK ++ [nv]) VW VS WS (ks ++ [x]) xs wx := by
  have hk := h.k.vlen
  refine ⟨h.wr, h.bo, h.fz, h.sk, h.sw, h.sp, h.k.snoc ho (fun i hi b hb e => (hn b e).2.1 i hi hb), h.u, fun i j hi hj b hb e => ?_, fun i hi b hb => ?_, h.uo, h.vb, h.xb, h.FN, h.below⟩
  · rw [List.length_append, List.length_singleton] at hi
    rw [getD_snoc, hk] at hb
    by_cases h1 : i < ks.length
    · rw [if_pos h1] at hb
      exact h.cross i j h1 hj b hb e
    · rw [if_neg h1, if_pos (show i = ks.length by omega)] at hb
      exact (hn b hb).2.2 j hj e
  · rw [List.length_append, List.length_singleton] at hi
    rw [getD_snoc, hk] at hb
    by_cases h1 : i < ks.length
    · rw [if_pos h1] at hb
      exact h.ko i h1 b hb
    · rw [if_neg h1, if_pos (show i = ks.length by omega)] at hb
      exact (hn b hb).1
/-- Behind a Next that tells a frame: its body is kept. -/
theorem AW.next {w : World} {F : Nat} {v bv vx vx' vK vW nv : Value} {tb fed fed' : List Nat} {told told' : Nat} {VK VW VS WS : List Value} {ks xs : List (List Nat)} {wx w' : World} {x : List Nat} (h : AW w F v bv vx vK vW tb fed told VK VW VS WS ks xs wx) (ho : w'.ownsRow wx.heap.size 5 1 nv x.length (by8 x)) (hz : Fz w' w.heap.size F vx' 65536 fed' told' 0) (hf : Fr wx w' (fun k => k = F ∨ vx.ownBlock = some k)) (hn : Nw wx vx vx')
    (hx : ∀ k, nv.ownBlock = some k → vx'.ownBlock ≠ some k) : AW w F v bv vx' vK vW tb fed' told' (VK ++ [nv]) VW VS WS (ks ++ [x]) xs w' := by
  have hs := h.size
  refine (h.fx hz hf hn).keepAt (own_mono ho (by omega)) (fun b hb => ?_)
  have hb1 := (ho.lt b hb).1
  exact ⟨⟨fun e => by have := (h.wr.own.lt b e).2; omega, fun e => by have := (h.bo.lt b e).2; omega, hx b hb⟩, fun i hi e => by have := (h.k.lt hi e).2; omega, fun j hj e => by have := (h.u.lt hj e).2; omega⟩
/-- A block that is none of what stands. -/
def Clear (w : World) (F : Nat) (v bv vx vK vW : Value) (VK VW : List Value) (n m : Nat) (g : Nat) : Prop :=
  w.heap.size < g ∧ g ≠ F ∧ Out3 v bv vx g ∧ vK.ownBlock ≠ some g ∧ vW.ownBlock ≠ some g ∧ (∀ i, i < n → (VK.getD i (.slice none 0 0)).ownBlock ≠ some g) ∧ ∀ j, j < m → (VW.getD j (.slice none 0 0)).ownBlock ≠ some g
theorem AW.clearNew {w : World} {F : Nat} {v bv vx vK vW : Value} {tb fed : List Nat} {told : Nat} {VK VW VS WS : List Value} {ks xs : List (List Nat)} {wx : World} (h : AW w F v bv vx vK vW tb fed told VK VW VS WS ks xs wx) : Clear w F v bv vx vK vW VK VW ks.length xs.length wx.heap.size := by
  have hF := lt_of_block h.fz.cell
  refine ⟨h.size, by omega, ⟨fun e => ?_, fun e => ?_, fun e => ?_⟩, fun e => ?_, fun e => ?_, fun i hi e => ?_, fun j hj e => ?_⟩
  · have := (h.wr.own.lt _ e).2; omega
  · have := (h.bo.lt _ e).2; omega
  · have := (h.fz.own.lt _ e).2; omega
  · have := (h.sk.lt _ e).2; omega
  · have := (h.sw.lt _ e).2; omega
  · have := (h.k.lt hi e).2; omega
  · have := (h.u.lt hj e).2; omega
theorem Clear.keep {w : World} {F : Nat} {v bv vx vK vW nv : Value} {VK VW : List Value} {n m g : Nat} (h : Clear w F v bv vx vK vW VK VW n m g) (hk : VK.length = n) (hn : nv.ownBlock ≠ some g) : Clear w F v bv vx vK vW (VK ++ [nv]) VW (n + 1) m g := by
  refine ⟨h.1, h.2.1, h.2.2.1, h.2.2.2.1, h.2.2.2.2.1, fun i hi => ?_, h.2.2.2.2.2.2⟩
  rw [getD_snoc, hk]
  by_cases h1 : i < n
  · rw [if_pos h1]
    exact h.2.2.2.2.2.1 i h1
  · rw [if_neg h1, if_pos (show i = n by omega)]
    exact hn
/-- Behind Back: only the lent block has turned. -/
theorem AW.lent {w : World} {F : Nat} {v bv vx vK vW : Value} {tb fed : List Nat} {told : Nat} {VK VW VS WS : List Value} {ks xs : List (List Nat)} {wx w' : World} {g : Nat} (h : AW w F v bv vx vK vW tb fed told VK VW VS WS ks xs wx) (hf : Fr wx w' (fun k => k = g)) (hc : Clear w F v bv vx vK vW VK VW ks.length xs.length g) : AW w F v bv vx vK vW tb fed told VK VW VS WS ks xs w' :=
  h.fr hf (fun k hk => by subst hk; exact hc)
end Go.Proofs.Ytmadlmbpgkifoab
