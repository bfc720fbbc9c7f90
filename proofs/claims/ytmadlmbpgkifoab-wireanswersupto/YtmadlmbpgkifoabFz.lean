/- Frames: Held, Feed, lengthIn, breakOff, letGo, NewFrames: walks. -/
import Derived.Test.YtmadlmbpgkifoabLend
import Derived.Test.YtmadlmbpgkifoabRd
import Derived.Deep.RegionWith
import Derived.Deep.DrawnRows
namespace Go.Proofs.Ytmadlmbpgkifoab
open Go.RowKit
attribute [local go_sem ↓] Go.wp_at_zero Go.wp_at_succ

theorem hid {p : Prop} (h : p) : Hid p := h

/-- A Frames at block F: the most, what was fed, how many of it were told, how many are held since a fault. -/
structure Fz (w : World) (base F : Nat) (v : Value) (most : Nat) (fed : List Nat) (told br : Nat) : Prop where
  cell : w.heap[F]? = some (.cells #[.int .i64 (most : Int), v, .int .i64 (told : Int), .int .i64 (br : Int)] 84 (0, 0))
  own : w.ownsRow base 5 1 v fed.length (by8 fed)
  le : told ≤ fed.length
  small : fed.length ≤ 140737488355328
  brs : br ≤ 140737488355328
  base : base ≤ F
  b8 : ∀ j, fed.getD j 0 < 256

theorem Fz.ne {w : World} {base F : Nat} {v : Value} {most : Nat} {fed : List Nat} {told br : Nat} (h : Fz w base F v most fed told br) : v.ownBlock ≠ some F := own_ne h.own h.cell (by decide)
theorem Fz.fr {w w' : World} {S : Nat → Prop} {base F : Nat} {v : Value} {most : Nat} {fed : List Nat} {told br : Nat} (h : Fz w base F v most fed told br) (hf : Fr w w' S) (hF : ¬ S F) (hv : ∀ k, v.ownBlock = some k → ¬ S k) : Fz w' base F v most fed told br :=
  ⟨by rw [hf.block F (lt_of_block h.cell) hF]; exact h.cell, own_fr h.own hf hv, h.le, h.small, h.brs, h.base, h.b8⟩
theorem Fz.drewN {w : World} {base F : Nat} {v : Value} {most : Nat} {fed : List Nat} {told br : Nat} (h : Fz w base F v most fed told br) (n : Nat) : Fz (w.drewN n) base F v most fed told br :=
  h.fr (S := fun _ => False) ((Fr.refl _ _).drewN n) (fun h => h) (fun _ _ h => h)

theorem getD_append_lt {a b : List Nat} (ha : ∀ j, a.getD j 0 < 256) (hb : ∀ j, b.getD j 0 < 256) (j : Nat) : (a ++ b).getD j 0 < 256 := by
  rcases Nat.lt_or_ge j a.length with h | h
  · have := ha j
    rwa [List.getD, List.getElem?_append_left h]
  · have := hb (j - a.length)
    rwa [List.getD, List.getElem?_append_right h]
theorem getD_drop_lt {fed : List Nat} (hb : ∀ j, fed.getD j 0 < 256) (q j : Nat) : (fed.drop q).getD j 0 < 256 := by
  have := hb (q + j)
  simpa [List.getD, List.getElem?_drop] using this

def heldN (fed : List Nat) (told br : Nat) : Nat := if 0 < br then br else fed.length - told

set_option maxHeartbeats 800000 in
set_option maxRecDepth 100000 in
theorem held_any (base F : Nat) (v : Value) (most : Nat) (fed : List Nat) (told br : Nat) (w : World) (h : Fz w base F v most fed told br) :
    Calls Try.prog 28 #[.pointer (some ⟨F, 0, none⟩)] w fun e w' => e = .returned (.int .i64 (heldN fed told br : Int)) ∧ ∃ n, w' = w.drewN n := by
  obtain ⟨ao, cap, rfl⟩ := own_nil_shape h.own
  obtain ⟨c0, c1, c2, c3⟩ := four_cells h.cell
  have hle := h.le
  have hsm := h.small
  clear h c0
  by_cases hb : 0 < br
  · have HP : Hid (heldN fed told br = br) := by show heldN fed told br = br; simp [heldN, hb]
    have hb' : (0 : Int) < (br : Int) := by omega
    go_enter Try.func28, Try.ntmps28
    go_wp2
    go_ret
    exact ⟨by rw [HP.out]; rfl, 0, rfl⟩
  · have hb' : ¬ (0 : Int) < (br : Int) := by omega
    have HP : Hid ((heldN fed told br : Int) = (fed.length : Int) - (told : Int)) := by
      show (heldN fed told br : Int) = (fed.length : Int) - (told : Int)
      rw [heldN, if_neg hb]
      omega
    go_enter Try.func28, Try.ntmps28
    go_wp2_with fail
    go_quiet (fail)
    go_wp2
    go_ret
    exact ⟨by rw [HP.out]; rfl, _, rfl⟩

/-- What a call leaves of a Frames, its memory beside it as it was. -/
def FzPost (w : World) (base F : Nat) (v : Value) (most : Nat) (fed : List Nat) (told br : Nat) (w' : World) : Prop :=
  ∃ v', Fz w' base F v' most fed told br ∧ Fr w w' (fun k => k = F ∨ v.ownBlock = some k) ∧ Nw w v v'

theorem Fz.same {w : World} {base F : Nat} {v : Value} {most : Nat} {fed : List Nat} {told br : Nat} (h : Fz w base F v most fed told br) : FzPost w base F v most fed told br w := ⟨v, h, Fr.refl _ _, Nw.refl _ _⟩

/-- The new slice is stored. -/
theorem fz_step {w wa w1 : World} {base F : Nat} {v0 v2 : Value} {most : Nat} {fed fed' : List Nat} {told : Nat} (h : Fz w base F v0 most fed told 0) (hfa : Fr w wa (fun _ => False)) (hl : told ≤ fed'.length) (hs : fed'.length ≤ 140737488355328) (hb8 : ∀ j, fed'.getD j 0 < 256)
    (hown : w1.ownsRow base 5 1 v2 fed'.length (by8 fed')) (hg : wa.grownBy w1 v0.ownBlock) (hat : v2.ownBlock = v0.ownBlock ∨ v2.ownBlock = some wa.heap.size) :
    FzPost w base F v0 most fed' told 0 (w1.setCell ⟨F, 1, none⟩ v2) ∧ w1.heap[F]? = some (.cells #[.int .i64 (most : Int), v0, .int .i64 (told : Int), .int .i64 0] 84 (0, 0)) := by
  have hlt := lt_of_block h.cell
  have hne := h.ne
  have hsa := hfa.size
  have hcb : w1.heap[F]? = some (.cells #[.int .i64 (most : Int), v0, .int .i64 (told : Int), .int .i64 0] 84 (0, 0)) := by
    rw [hg.block F (by omega) (fun e => hne e.symm), hfa.block F hlt (fun h => h)]
    exact h.cell
  have hnw2 : Nw w v0 v2 := Nw.of hat hsa
  have hne2 : v2.ownBlock ≠ some F := by
    intro e
    rcases hat with h | h
    · exact hne (h ▸ e)
    · rw [h] at e; cases e; omega
  refine ⟨⟨v2, ⟨one_stored hcb, ownsRow_setCell_other hown hne2 _, hl, hs, by omega, h.base, hb8⟩, ?_, hnw2⟩, hcb⟩
  refine Fr.setCell ?_ (fun _ => Or.inl rfl) _
  exact Fr.grown (hfa.mono (fun _ _ h => h.elim)) hg (fun k hk e => Or.inr e)

set_option maxHeartbeats 800000 in
set_option maxRecDepth 100000 in
theorem feed_any (base F : Nat) (v : Value) (most : Nat) (fed : List Nat) (told br : Nat) (pv : Value) (zs : List Nat) (w : World) (h : Fz w base F v most fed told br) (hz : Bs w pv zs) (hb : base ≤ w.heap.size) (hl : fed.length + zs.length ≤ 140737488355328) (hz8 : ∀ j, zs.getD j 0 < 256) :
    Calls Try.prog 26 #[.pointer (some ⟨F, 0, none⟩), pv] w fun e w' => e = .returned (.tuple #[]) ∧ FzPost w base F v most (if br = 0 then fed ++ zs else fed) told br w' := by
  obtain ⟨i0, hi, hz0, hz1, hz2⟩ := info_parts Try.info5
  obtain ⟨ao, cap, rfl⟩ := own_nil_shape h.own
  obtain ⟨c0, c1, c2, c3⟩ := four_cells h.cell
  have f1 := free_of h.cell 1
  by_cases hbr : br = 0
  · subst hbr
    rw [if_pos rfl]
    rcases hz with ⟨rfl, rfl⟩ | ⟨a, pcap, rfl, hz⟩
    · have ho := h.own
      have HS : Hid (FzPost w base F (.slice ao fed.length cap) most (fed ++ []) told 0 (w.setCell ⟨F, 1, none⟩ (.slice ao fed.length cap))) := by
        have := (fz_step (fed' := fed) h (Fr.refl w _) h.le h.small h.b8 h.own ⟨rfl, rfl, rfl, Nat.le_refl _, fun _ _ _ => rfl⟩ (Or.inl rfl)).1
        rw [List.append_nil]
        exact this
      clear h
      go_enter Try.func26, Try.ntmps26
      go_wp2_with (at_builtin; go_must (refine wpList_append_own_none rfl (.tmp 13) (.tmp 14) 24 rfl base 5 i0 1 Try.underlying24 hi _ _ _ rfl ho rfl ?_))
      go_end0
      exact ⟨rfl, HS.out⟩
    · have ho := h.own
      have H : Hid (Fz w base F (.slice ao fed.length cap) most fed told 0) := h
      have HZ : Hid (∀ j u, (by8 zs)[j]? = some u → w.cell? (a.add j) = some u) := hz
      clear h hz
      go_enter Try.func26, Try.ntmps26
      go_wp2_with (at_builtin; go_must (refine wpList_append_own_at _ rfl (.tmp 13) (.tmp 14) 24 rfl base 5 i0 (.int .u8 0) 1 1 Try.underlying24 hi hz0 hz1 hz2 rfl (by decide) _ _ _ rfl ho a zs.length pcap (by8 zs) rfl (by rw [by8_length, Nat.mul_one]) HZ.out (by8_one zs) (by unfold maxLen; omega) (by omega) hb ?_))
      intro v2 w1 hown hgrow _ hat
      have S := fz_step (fed' := fed ++ zs) H.out (Fr.refl w _) (by have := H.out.le; simp; omega) (by simpa using hl) (getD_append_lt H.out.b8 hz8) (by rw [List.length_append, by8_append]; exact hown) hgrow hat
      obtain ⟨ao2, cap2, rfl⟩ := own_nil_shape hown
      obtain ⟨d0, d1, d2, d3⟩ := four_cells S.2
      have e1 := free_of S.2 1
      have HS := hid S.1
      clear S hown hgrow hat ho c0 c1 c2 c3 f1
      go_wp2
      go_end0
      exact ⟨rfl, HS.out⟩
  · have HS : Hid (FzPost w base F (.slice ao fed.length cap) most fed told br w) := h.same
    have hbr' : ((br : Int) == 0) = false := by simp; omega
    rw [if_neg hbr]
    clear h
    go_enter Try.func26, Try.ntmps26
    go_wp2
    go_end0
    exact ⟨rfl, HS.out⟩

/-- A number, the highest byte first. -/
def beN (l : List Nat) : Nat := l.foldl (fun n b => n * 256 + b) 0
theorem beN_snoc (l : List Nat) (b : Nat) : beN (l ++ [b]) = beN l * 256 + b := by simp [beN]
theorem beN_take (ps : List Nat) (k : Nat) (hk : k < ps.length) : beN (ps.take (k + 1)) = beN (ps.take k) * 256 + ps.getD k 0 := by
  rw [List.take_succ_eq_append_getElem hk, beN_snoc]
  simp [List.getD, List.getElem?_eq_getElem hk]
theorem beN_take_lt (ps : List Nat) (hb : ∀ j, ps.getD j 0 < 256) (k : Nat) (hk : k ≤ ps.length) : beN (ps.take k) < 256 ^ k := by
  induction k with
  | zero => exact Nat.one_pos
  | succ k ih =>
    have h1 := ih (by omega)
    have h2 := hb k
    rw [beN_take ps k (by omega), Nat.pow_succ]
    omega
theorem or_be (m b : Nat) (hm : m < 16777216) (hb : b < 256) : Go.bits .or .i64 ((m : Int) * 256) (b : Int) = ((m * 256 + b : Nat) : Int) := by
  have e : ((m : Int) * 256) = ((m * 256 : Nat) : Int) := by omega
  rw [e, (bits_nat .i64 62 (by decide) (fun n h0 h1 => by rw [IntKind.wrap_i64]; omega) (m * 256) b (by omega) (by omega)).2]
  have h : b < 2 ^ 8 := hb
  have := Nat.shiftLeft_add_eq_or_of_lt h m
  rw [Nat.shiftLeft_eq] at this
  rw [← this]

set_option maxHeartbeats 800000 in
set_option maxRecDepth 100000 in
theorem length_any (g off n cap : Nat) (ps : List Nat) (w : World) (hn : 4 ≤ n) (hc : n ≤ cap) (hcm : cap ≤ maxLen) (hp : ps.length = 4) (hb : ∀ j, ps.getD j 0 < 256) (hcell : ∀ j, j < 4 → w.cell? ⟨g, off + j, none⟩ = some (.int .u8 ((ps.getD j 0 : Nat) : Int))) :
    Calls Try.prog 42 #[.slice (some ⟨g, off, none⟩) n cap] w fun e w' => e = .returned (.int .i64 (beN ps : Int)) ∧ w' = w := by
  unfold maxLen at hcm
  have h4 : (4 : Int) ≤ (cap : Int) := by omega
  go_enter Try.func42, Try.ntmps42
  go_wp2_with fail
  go_loop [3, 9] (fun a i => ∃ k : Nat, k ≤ 4 ∧ i = .int .i64 (k : Int) ∧ a = .int .i64 (beN (ps.take k) : Int)) (fun _ i => 4 - (intOf i).toNat)
  case atStart => exact ⟨0, by omega, rfl, rfl⟩
  case round =>
    obtain ⟨k, hk, rfl, rfl⟩ := hrel
    by_cases hlt : k < 4
    · have hck := hcell k hlt
      have HS : Hid (beN (ps.take (k + 1)) = beN (ps.take k) * 256 + ps.getD k 0) := beN_take ps k (by omega)
      have hbk := hb k
      have hle3 : beN (ps.take k) < 16777216 := Nat.lt_of_lt_of_le (beN_take_lt ps hb k (by omega)) (Nat.le_trans (Nat.pow_le_pow_right (by decide) (show k ≤ 3 by omega)) (by decide))
      generalize ps.getD k 0 = b at *
      clear hcell hb
      generalize beN (ps.take k) = m at *
      have HO : Hid (Go.bits .or .i64 ((m : Int) * 256) (b : Int) = ((m * 256 + b : Nat) : Int)) := or_be m b hle3 hbk
      go_wp2
      exact ⟨⟨k + 1, by omega, by go_num, by rw [HO.out, HS.out]⟩, by simp [intOf]; omega⟩
    · obtain rfl : k = 4 := by omega
      have HT : Hid (ps.take 4 = ps) := List.take_of_length_le (by omega)
      go_wp2
      go_ret
      exact ⟨by rw [HT.out]; rfl, rfl⟩

theorem three_stored {w : World} {b : Nat} {v0 v1 v2 v3 x1 x2 x3 : Value} {t : TypeId} (h : w.heap[b]? = some (.cells #[v0, v1, v2, v3] t (0, 0))) :
    (((w.setCell ⟨b, 3, none⟩ x3).setCell ⟨b, 1, none⟩ x1).setCell ⟨b, 2, none⟩ x2).heap[b]? = some (.cells #[v0, x1, x2, x3] t (0, 0)) := by
  have h1 := heap_setCell_same w b 3 #[v0, v1, v2, v3] t x3 h
  have h2 := heap_setCell_same _ b 1 _ t x1 h1
  have h3 := heap_setCell_same _ b 2 _ t x2 h2
  simpa using h3
theorem told_stored {w : World} {b : Nat} {v0 v1 v2 v3 x2 : Value} {t : TypeId} (h : w.heap[b]? = some (.cells #[v0, v1, v2, v3] t (0, 0))) :
    (w.setCell ⟨b, 2, none⟩ x2).heap[b]? = some (.cells #[v0, v1, x2, v3] t (0, 0)) := by
  have h1 := heap_setCell_same w b 2 #[v0, v1, v2, v3] t x2 h
  simpa using h1

set_option maxHeartbeats 800000 in
set_option maxRecDepth 100000 in
theorem break_any (base F : Nat) (v : Value) (most : Nat) (fed : List Nat) (told : Nat) (w : World) (h : Fz w base F v most fed told 0) :
    Calls Try.prog 43 #[.pointer (some ⟨F, 0, none⟩)] w fun e w' => e = .returned (.tuple #[]) ∧ FzPost w base F v most [] 0 (fed.length - told) w' := by
  obtain ⟨c0, c1, c2, c3⟩ := four_cells h.cell
  have f1 := free_of h.cell 1
  have f2 := free_of h.cell 2
  have f3 := free_of h.cell 3
  have H := hid h
  have hh : ((heldN fed told 0 : Nat) : Int) = ((fed.length - told : Nat) : Int) := rfl
  clear h
  go_enter Try.func43, Try.ntmps43
  go_wp2_with fail
  refine (held_any base F v most fed told 0 w H.out).mono ?_
  rintro e w1 ⟨rfl, n, rfl⟩
  rw [hh]
  clear hh
  have hb : fed.length - told ≤ 140737488355328 := by have := H.out.small; omega
  have HS : Hid (FzPost w base F v most [] 0 (fed.length - told) ((((w.drewN n).setCell ⟨F, 3, none⟩ (.int .i64 ((fed.length - told : Nat) : Int))).setCell ⟨F, 1, none⟩ (.slice none 0 0)).setCell ⟨F, 2, none⟩ (.int .i64 0))) := by
    refine ⟨.slice none 0 0, ⟨three_stored (w := w.drewN n) H.out.cell, World.ownsRow_nil _ _ _ _, by simp, by simp, hb, H.out.base, by simp⟩, ?_, ?_⟩
    · refine Fr.setCell (Fr.setCell (Fr.setCell ((Fr.refl _ _).drewN n) (fun _ => Or.inl rfl) _) (fun _ => Or.inl rfl) _) (fun _ => Or.inl rfl) _
    · exact Nw.nil _ _
  obtain ⟨q, hq⟩ : ∃ q, q = fed.length - told := ⟨_, rfl⟩
  have HQ := hid hq
  rw [← hq] at HS hb ⊢
  clear hq
  go_wp2
  go_end0
  rw [← HQ.out]
  exact ⟨rfl, HS.out⟩
end Go.Proofs.Ytmadlmbpgkifoab
