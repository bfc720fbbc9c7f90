/- Frames.letGo and Next: walks. -/
import Derived.Test.YtmadlmbpgkifoabFz
namespace Go.Proofs.Ytmadlmbpgkifoab
open Go.RowKit
attribute [local go_sem ↓] Go.wp_at_zero Go.wp_at_succ

/-- What a call leaves of a Frames, by the bytes that are still ahead. -/
def NzPost (w : World) (base F : Nat) (v : Value) (most : Nat) (L : Nat) (ps : List Nat) (br : Nat) (w' : World) : Prop :=
  ∃ v' fed told, Fz w' base F v' most fed told br ∧ fed.drop told = ps ∧ Fr w w' (fun k => k = F ∨ v.ownBlock = some k) ∧ Nw w v v' ∧ fed.length ≤ L

theorem Fz.movedTo {w : World} {base F : Nat} {v : Value} {most : Nat} {fed : List Nat} {told br q : Nat} (h : Fz w base F v most fed told br) (hq : q ≤ fed.length) :
    Fz (w.setCell ⟨F, 2, none⟩ (.int .i64 (q : Int))) base F v most fed q br :=
  ⟨told_stored h.cell, ownsRow_setCell_other h.own h.ne _, hq, h.small, h.brs, h.base, h.b8⟩

/-- A row's end, as a slice. -/
theorem bs_drop {w : World} {base g cap : Nat} {e : TypeId} {xs : List Nat} (h : w.ownsRow base e 1 (.slice (some ⟨g, 0, none⟩) xs.length cap) xs.length (by8 xs)) (q : Nat) : Bs w (.slice (some ⟨g, q, none⟩) (xs.length - q) (cap - q)) (xs.drop q) := by
  refine Or.inr ⟨⟨g, q, none⟩, cap - q, by rw [List.length_drop], fun j u hu => ?_⟩
  have hu' : (by8 xs)[q + j]? = some u := by
    rw [← hu]
    simp [by8, List.getElem?_drop]
  have := h.cells (g := g) rfl (q + j) u hu'
  rw [Addr.add_lit] at this ⊢
  rwa [Nat.zero_add] at this

/-- letGo's second way: the rest is cloned and stored. -/
theorem lg_step {w W1 w2 : World} {base F : Nat} {v v2 : Value} {most : Nat} {fed : List Nat} {q : Nat} (hf : Fr w W1 (fun k => k = F ∨ v.ownBlock = some k)) (h : Fz W1 base F v most fed q 0) (hf2 : Fr W1 w2 (fun _ => False))
    (ho : w2.ownsRow W1.heap.size 5 1 v2 (fed.drop q).length (by8 (fed.drop q))) (hb : base ≤ w.heap.size) :
    w2.heap[F]? = some (.cells #[.int .i64 (most : Int), v, .int .i64 (q : Int), .int .i64 0] 84 (0, 0)) ∧
      NzPost w base F v most fed.length (fed.drop q) 0 ((w2.setCell ⟨F, 1, none⟩ v2).setCell ⟨F, 2, none⟩ (.int .i64 0)) := by
  have hlt := lt_of_block h.cell
  have hs := hf.size
  have hc : w2.heap[F]? = some (.cells #[.int .i64 (most : Int), v, .int .i64 (q : Int), .int .i64 0] 84 (0, 0)) := by
    rw [hf2.block F hlt (fun h => h)]
    exact h.cell
  have hne : v2.ownBlock ≠ some F := fun e => by have := (ho.lt F e).1; omega
  refine ⟨hc, v2, fed.drop q, 0, ⟨told_stored (one_stored hc), ownsRow_setCell_other (ownsRow_setCell_other (own_mono ho (by omega)) hne _) hne _, Nat.zero_le _, ?_, by omega, h.base, getD_drop_lt h.b8 q⟩, List.drop_zero, ?_, ?_, by simp⟩
  · have := h.small
    simp
    omega
  · exact Fr.setCell (Fr.setCell (hf.trans2 hf2 (fun _ _ h => h.elim)) (fun _ => Or.inl rfl) _) (fun _ => Or.inl rfl) _
  · intro k hk
    have := (ho.lt k hk).1
    right
    omega

set_option maxHeartbeats 800000 in
set_option maxRecDepth 100000 in
theorem letGo_any (base F : Nat) (v : Value) (most : Nat) (fed : List Nat) (told n : Nat) (w : World) (h : Fz w base F v most fed told 0) (hn : told + n ≤ fed.length) (hb : base ≤ w.heap.size) :
    Calls Try.prog 44 #[.pointer (some ⟨F, 0, none⟩), .int .i64 (n : Int)] w fun e w' => e = .returned (.tuple #[]) ∧ NzPost w base F v most fed.length (fed.drop (told + n)) 0 w' := by
  obtain ⟨ao, cap, rfl⟩ := own_nil_shape h.own
  obtain ⟨c0, c1, c2, c3⟩ := four_cells h.cell
  have f2 := free_of h.cell 2
  have hsm := h.small
  have h1 := h.movedTo (q := told + n) hn
  obtain ⟨d0, d1, d2, d3⟩ := four_cells h1.cell
  have H1 := hid h1
  have hf1 := hid (fr_set w F 2 (.int .i64 ((told + n : Nat) : Int)))
  rw [show (w.setCell ⟨F, 2, none⟩ (.int .i64 ((told + n : Nat) : Int))) = (w.setCell ⟨F, 2, none⟩ (.int .i64 ((told : Int) + (n : Int)))) from by rw [Int.natCast_add]] at d0 d1 d2 d3 H1 hf1
  clear h1
  obtain ⟨W1, hW1⟩ : ∃ W1, W1 = w.setCell ⟨F, 2, none⟩ (.int .i64 ((told : Int) + (n : Int))) := ⟨_, rfl⟩
  have HW1 := hid hW1
  rw [← hW1] at d0 d1 d2 d3 H1 hf1
  clear hW1
  have hheld : heldN fed (told + n) 0 = fed.length - (told + n) := rfl
  have e1 := free_of H1.out.cell 1
  have e2 := free_of H1.out.cell 2
  have HH := hid hheld
  have H0 := hid h
  clear hheld h c0 c3
  have HF1 := hid (hf1.out.mono (T := fun k => k = F ∨ (Value.slice ao fed.length cap).ownBlock = some k) (fun _ _ h => Or.inl h))
  by_cases hg : fed.length - (told + n) ≤ told + n
  · have hg' : ((fed.length - (told + n) : Nat) : Int) ≤ (told : Int) + (n : Int) := by omega
    by_cases hcap : cap = told + n
    · have hfl := H0.out.own.2
      have hz : fed.length - (told + n) = 0 := by
        rcases hfl with ⟨h, h0⟩ | ⟨g, cap', cur, h, _, _, hle, _⟩
        · omega
        · simp only [Value.slice.injEq] at h
          omega
      have HB : Hid (∀ W, Bs W (.slice ao 0 0) (fed.drop (told + n))) := by
        intro W
        rw [List.drop_eq_nil_of_le (by omega)]
        cases ao with
        | none => exact Or.inl ⟨rfl, rfl⟩
        | some a => exact Or.inr ⟨a, 0, rfl, fun j u hu => by simp [by8] at hu⟩
      clear hfl hg
      subst hcap
      go_enter Try.func44, Try.ntmps44
      go_wp2_with fail
      rw [← HW1.out]
      go_quiet ((go_at_call 28; exact Calls.quiet_of (held_any base F _ most fed (told + n) 0 _ (H1.out.drewN _))))
      rw [HH.out]
      go_wp2_with fail
      go_region_with (go_at_call 34; go_must (refine (clone_any _ (fed.drop (told + n)) _ (HB.out _) (by simp; omega)).mono ?_); rintro e w2 ⟨v2, rfl, ho2, hf2⟩; obtain ⟨ao2, cap2, rfl⟩ := own_nil_shape ho2; have HS := hid (lg_step HF1.out H1.out hf2.ofDrewN ho2 hb); obtain ⟨g0, g1, g2, g3⟩ := four_cells HS.out.1; have k1 := free_of HS.out.1 1; have k2 := free_of HS.out.1 2; clear ho2 hf2)
      all_goals go_wp2
      all_goals go_end0
      all_goals exact ⟨rfl, by have h2 := HS.out.2; rw [List.length_drop, hz] at h2; exact h2⟩
    · obtain ⟨g, rfl⟩ : ∃ g, ao = some ⟨g, 0, none⟩ := by
        rcases H0.out.own.2 with ⟨h, h0⟩ | ⟨g, _, _, h, _⟩
        · simp only [Value.slice.injEq] at h
          omega
        · simp only [Value.slice.injEq] at h
          exact ⟨g, h.1⟩
      have hlc : fed.length ≤ cap := by
        rcases H0.out.own.2 with ⟨h, h0⟩ | ⟨g, cap', cur, h, _, _, hle, _⟩
        · simp at h
        · simp only [Value.slice.injEq] at h
          omega
      have HB : Hid (∀ m, Bs (W1.drewN m) (.slice (some ⟨g, told + n, none⟩) (fed.length - (told + n)) (cap - (told + n))) (fed.drop (told + n))) := by
        intro m
        have := bs_drop (H1.out.drewN m).own (told + n)
        exact this
      clear hg
      go_enter Try.func44, Try.ntmps44
      go_wp2_with fail
      rw [← HW1.out]
      go_quiet ((go_at_call 28; exact Calls.quiet_of (held_any base F _ most fed (told + n) 0 _ (H1.out.drewN _))))
      rw [HH.out]
      go_wp2_with fail
      go_region_with (go_at_call 34; go_must (refine (clone_any _ (fed.drop (told + n)) _ (HB.out _) (by simp; omega)).mono ?_); rintro e w2 ⟨v2, rfl, ho2, hf2⟩; obtain ⟨ao2, cap2, rfl⟩ := own_nil_shape ho2; have HS := hid (lg_step HF1.out H1.out hf2.ofDrewN ho2 hb); obtain ⟨g0, g1, g2, g3⟩ := four_cells HS.out.1; have k1 := free_of HS.out.1 1; have k2 := free_of HS.out.1 2; clear ho2 hf2)
      all_goals go_wp2
      all_goals go_end0
      all_goals exact ⟨rfl, by have h2 := HS.out.2; rw [List.length_drop] at h2; exact h2⟩
  · have hg' : ¬ ((fed.length - (told + n) : Nat) : Int) ≤ (told : Int) + (n : Int) := by omega
    go_enter Try.func44, Try.ntmps44
    go_wp2_with fail
    rw [← HW1.out]
    go_quiet ((go_at_call 28; exact Calls.quiet_of (held_any base F _ most fed (told + n) 0 _ (H1.out.drewN _))))
    rw [HH.out]
    go_wp2
    go_end0
    exact ⟨rfl, _, fed, told + n, H1.out.drewN _, rfl, HF1.out.drewN _, Nw.refl _ _, Nat.le_refl _⟩
end Go.Proofs.Ytmadlmbpgkifoab
