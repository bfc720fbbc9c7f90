/- Rows of int64 that the call owns, many at a time, apart from one another; the law's copied. -/
import Derived.Test.YtfdkinghcalhfabKept
import Derived.Test.YtfdkinghcalhfabPDel2
import Derived.Deep.AppendLies
namespace Go.Proofs.Ytfdkinghcalhfab
open Go.RowKit

/-- A number of an owned row: read, not frozen, written. -/
theorem own_cellI {w : World} {base : Nat} {v : Value} {xs : List Int} (h : w.ownsRow base 2 1 v xs.length (iv xs)) {g : Nat} (hg : v.ownBlock = some g) (j : Nat) (hj : j < xs.length) : w.cell? ⟨g, j, none⟩ = some (.int .i64 (xs.getD j 0)) ∧ w.frozen? ⟨g, j, none⟩ = false := by
  have h0 := h
  rcases h.2 with ⟨rfl, _⟩ | ⟨g', cap, cur, rfl, _, hh, _⟩
  · simp [Value.ownBlock] at hg
  · simp [Value.ownBlock] at hg
    subst hg
    have := h0.cells (g := g') rfl j _ (iv_get xs j hj)
    rw [Addr.add_lit, Nat.zero_add] at this
    exact ⟨this, by simp [World.frozen?, hh]⟩
theorem own_setI {w : World} {base : Nat} {v : Value} {xs : List Int} (h : w.ownsRow base 2 1 v xs.length (iv xs)) {g : Nat} (hg : v.ownBlock = some g) (j : Nat) (c : Int) : (w.setCell ⟨g, j, none⟩ (.int .i64 c)).ownsRow base 2 1 v (xs.set j c).length (iv (xs.set j c)) := by
  rcases h.2 with ⟨rfl, _⟩ | ⟨g', cap, cur, rfl, hb, hh, hn, hm, hs, ht⟩
  · simp [Value.ownBlock] at hg
  · simp [Value.ownBlock] at hg
    subst hg
    have h1 := heap_setCell_same w g' j cur 2 (.int .i64 c) hh
    refine ⟨by rw [iv_length, Nat.mul_one], Or.inr ⟨g', cap, _, by rw [List.length_set], hb, h1, by rw [List.length_set]; exact hn, hm, by simpa using hs, ?_⟩⟩
    rw [List.length_set, Array.toList_setIfInBounds, List.take_set, ht]
    simp [iv]

/-- No value: an empty slice. -/
def nilV : Value := .slice none 0 0

/-- Rows of numbers, each owned, no two in one block. -/
structure KpI (w : World) (base : Nat) (Vs : List Value) (ks : List (List Int)) : Prop where
  vlen : Vs.length = ks.length
  own : ∀ i, i < ks.length → w.ownsRow base 2 1 (Vs.getD i nilV) (ks.getD i []).length (iv (ks.getD i []))
  apart : ∀ i j, i < ks.length → j < ks.length → i ≠ j → ∀ k, (Vs.getD i nilV).ownBlock = some k → (Vs.getD j nilV).ownBlock ≠ some k
theorem KpI.nil (w : World) (base : Nat) : KpI w base [] [] := ⟨rfl, fun i h => by simp at h, fun i j h => by simp at h⟩
theorem KpI.fr {w w' : World} {base : Nat} {Vs : List Value} {ks : List (List Int)} {S : Nat → Prop} (h : KpI w base Vs ks) (hf : Fr w w' S) (hS : ∀ i, i < ks.length → ∀ k, (Vs.getD i nilV).ownBlock = some k → ¬ S k) : KpI w' base Vs ks :=
  ⟨h.vlen, fun i hi => own_fr (h.own i hi) hf (hS i hi), h.apart⟩
theorem KpI.lt {w : World} {base : Nat} {Vs : List Value} {ks : List (List Int)} (h : KpI w base Vs ks) {i : Nat} (hi : i < ks.length) {k : Nat} (hk : (Vs.getD i nilV).ownBlock = some k) : base ≤ k ∧ k < w.heap.size := (h.own i hi).lt k hk
theorem KpI.snoc {w : World} {base : Nat} {Vs : List Value} {ks : List (List Int)} (h : KpI w base Vs ks) {v : Value} {x : List Int} (ho : w.ownsRow base 2 1 v x.length (iv x)) (hne : ∀ i, i < ks.length → ∀ k, (Vs.getD i nilV).ownBlock = some k → v.ownBlock ≠ some k) : KpI w base (Vs ++ [v]) (ks ++ [x]) := by
  have hv := h.vlen
  refine ⟨by simp [hv], fun i hi => ?_, fun i j hi hj hij k hk => ?_⟩
  · rw [List.length_append, List.length_singleton] at hi
    rw [getD_snoc, getD_snoc, hv]
    by_cases h1 : i < ks.length
    · rw [if_pos h1, if_pos h1]
      exact h.own i h1
    · rw [if_neg h1, if_neg h1, if_pos (show i = ks.length by omega), if_pos (show i = ks.length by omega)]
      exact ho
  · rw [List.length_append, List.length_singleton] at hi hj
    rw [getD_snoc, hv] at hk ⊢
    by_cases h1 : i < ks.length
    · rw [if_pos h1] at hk
      by_cases h2 : j < ks.length
      · rw [if_pos h2]
        exact h.apart i j h1 h2 hij k hk
      · rw [if_neg h2, if_pos (show j = ks.length by omega)]
        exact hne i h1 k hk
    · rw [if_neg h1, if_pos (show i = ks.length by omega)] at hk
      rw [if_pos (show j < ks.length by omega)]
      intro e
      exact hne j (by omega) k e hk
theorem KpI.turn {w w' : World} {base : Nat} {Vs : List Value} {ks : List (List Int)} (h : KpI w base Vs ks) {i : Nat} (hi : i < ks.length) {x : List Int} (hf : Fr w w' (fun k => (Vs.getD i nilV).ownBlock = some k)) (ho : w'.ownsRow base 2 1 (Vs.getD i nilV) x.length (iv x)) : KpI w' base Vs (ks.set i x) := by
  refine ⟨by simp [h.vlen], fun j hj => ?_, fun j l hj hl => h.apart j l (by simpa using hj) (by simpa using hl)⟩
  rw [List.length_set] at hj
  rw [getD_set _ _ _ _ _ hi]
  by_cases hji : j = i
  · rw [if_pos hji, hji]
    exact ho
  · rw [if_neg hji]
    exact own_fr (h.own j hj) hf (fun k hk => h.apart j i hj hi hji k hk)

/-- Two books of rows, apart from one another. -/
structure Bk (w : World) (base : Nat) (Vs : List Value) (ks : List (List Int)) (Us : List Value) (xs : List (List Int)) : Prop where
  k : KpI w base Vs ks
  u : KpI w base Us xs
  cross : ∀ i j, i < ks.length → j < xs.length → ∀ b, (Vs.getD i nilV).ownBlock = some b → (Us.getD j nilV).ownBlock ≠ some b
theorem Bk.fr {w w' : World} {base : Nat} {Vs Us : List Value} {ks xs : List (List Int)} {S : Nat → Prop} (h : Bk w base Vs ks Us xs) (hf : Fr w w' S) (hS : ∀ i, i < ks.length → ∀ k, (Vs.getD i nilV).ownBlock = some k → ¬ S k) (hS2 : ∀ i, i < xs.length → ∀ k, (Us.getD i nilV).ownBlock = some k → ¬ S k) : Bk w' base Vs ks Us xs :=
  ⟨h.k.fr hf hS, h.u.fr hf hS2, h.cross⟩
theorem Bk.step {w w' : World} {base : Nat} {Vs Us : List Value} {ks xs : List (List Int)} (h : Bk w base Vs ks Us xs) (hf : Fr w w' (fun _ => False)) : Bk w' base Vs ks Us xs := h.fr hf (fun _ _ _ _ h => h) (fun _ _ _ _ h => h)
/-- A new row, in a block that was not there. -/
theorem Bk.keep {w : World} {base : Nat} {Vs Us : List Value} {ks xs : List (List Int)} (h : Bk w base Vs ks Us xs) {w' : World} (hf : Fr w w' (fun _ => False)) {v : Value} {x : List Int} (ho : w'.ownsRow base 2 1 v x.length (iv x)) (hn : ∀ b, v.ownBlock = some b → w.heap.size ≤ b) : Bk w' base (Vs ++ [v]) (ks ++ [x]) Us xs := by
  have hk := h.k.vlen
  refine ⟨(h.step hf).k.snoc ho (fun i hi b hb e => by have := (h.k.lt hi hb).2; have := hn b e; omega), (h.step hf).u, fun i j hi hj b hb e => ?_⟩
  rw [List.length_append, List.length_singleton] at hi
  rw [getD_snoc, hk] at hb
  by_cases h1 : i < ks.length
  · rw [if_pos h1] at hb
    exact h.cross i j h1 hj b hb e
  · rw [if_neg h1, if_pos (show i = ks.length by omega)] at hb
    have := (h.u.lt hj e).2
    have := hn b hb
    omega
theorem Bk.want {w : World} {base : Nat} {Vs Us : List Value} {ks xs : List (List Int)} (h : Bk w base Vs ks Us xs) {w' : World} (hf : Fr w w' (fun _ => False)) {v : Value} {x : List Int} (ho : w'.ownsRow base 2 1 v x.length (iv x)) (hn : ∀ b, v.ownBlock = some b → w.heap.size ≤ b) : Bk w' base Vs ks (Us ++ [v]) (xs ++ [x]) := by
  have hk := h.u.vlen
  refine ⟨(h.step hf).k, (h.step hf).u.snoc ho (fun i hi b hb e => by have := (h.u.lt hi hb).2; have := hn b e; omega), fun i j hi hj b hb e => ?_⟩
  rw [List.length_append, List.length_singleton] at hj
  rw [getD_snoc, hk] at e
  by_cases h1 : j < xs.length
  · rw [if_pos h1] at e
    exact h.cross i j hi h1 b hb e
  · rw [if_neg h1, if_pos (show j = xs.length by omega)] at e
    have := (h.k.lt hi hb).2
    have := hn b e
    omega
/-- One kept row is turned, in its own block. -/
theorem Bk.turn {w w' : World} {base : Nat} {Vs Us : List Value} {ks xs : List (List Int)} (h : Bk w base Vs ks Us xs) {i : Nat} (hi : i < ks.length) {x : List Int} (hf : Fr w w' (fun k => (Vs.getD i nilV).ownBlock = some k)) (ho : w'.ownsRow base 2 1 (Vs.getD i nilV) x.length (iv x)) : Bk w' base Vs (ks.set i x) Us xs :=
  ⟨h.k.turn hi hf ho, h.u.fr hf (fun j hj k hk e => h.cross i j hi hj k e hk), fun i j hi hj => h.cross i j (by simpa using hi) hj⟩

/-- A spine's block is none of the rows'. -/
theorem spine_ne {w : World} {base n : Nat} {v u : Value} {vs us : List Value} {m : Nat} (h : w.ownsRow base 27 1 v n vs) (h2 : w.ownsRow base 2 1 u m us) : ∀ b, v.ownBlock = some b → u.ownBlock ≠ some b := by
  intro b hb e
  rcases h2.2 with ⟨rfl, _⟩ | ⟨g, cap, cur, rfl, _, hg, _⟩
  · simp [Value.ownBlock] at e
  · simp [Value.ownBlock] at e
    subst e
    exact own_ne h hg (by decide) hb
theorem Try.info_sl : (Try.prog.info? 27).map (fun i => (i.zero, i.size, i.bytes)) = some (some (.slice none 0 0), 1, 24) := by kernel_rfl

theorem copied_any (v : Value) (xs : List Int) (w : World) (hv : Is w v xs) (hnz : ∃ a n cap, v = .slice (some a) n cap) (hl : xs.length ≤ 64) :
    Calls Try.prog 17 #[v] w fun e w' => ∃ u, e = .returned u ∧ w'.ownsRow w.heap.size 2 1 u xs.length (iv xs) ∧ Fr w w' (fun _ => False) := by
  obtain ⟨ad, n', cap', rfl⟩ := hnz
  obtain ⟨ao, cap, e, hlen, hfit, hcell⟩ := hv
  cases e
  obtain ⟨i0, hinfo, hz0, hz1, hz2⟩ := info_parts Try.info_i64
  have HC := hid hcell
  clear hcell hfit
  go_enter Try.func17, Try.ntmps17
  go_wp2_with (at_builtin; refine wpList_append_own _ rfl _ _ 27 rfl w.heap.size 2 i0 (.int .i64 0) 1 8 Try.underlying27 hinfo hz0 hz1 hz2 rfl (by decide) (.slice none 0 0) 0 [] rfl (World.ownsRow_nil _ _ _ _) ad xs.length cap' (iv xs) rfl (by rw [iv_length, Nat.mul_one]) (fun j z hz => by
      have hj : j < xs.length := by
        rcases Nat.lt_or_ge j xs.length with h | h
        · exact h
        · rw [List.getElem?_eq_none (by rw [iv_length]; exact h)] at hz
          cases hz
      obtain ⟨b, off, e, hck⟩ := HC.out (by intro e; subst e; simp at hj)
      cases e
      rw [Addr.add_lit, hck j hj, ← hz, iv_get xs j hj]) (iv_one xs) (by unfold maxLen; omega) (by omega) (Nat.le_refl _) ?_; intro v' w3 hown3 hgrow3 hnil3)
  go_ret
  refine ⟨_, rfl, by simpa using hown3, (Fr.refl w _).grown hgrow3 (fun k _ e => by simp [Value.ownBlock] at e)⟩
end Go.Proofs.Ytfdkinghcalhfab
