/- has, unlike: walks; how many unlike numbers there are. -/
import Derived.Test.YtcmniejffpoinaaCDo
namespace Go.Proofs.Ytcmniejffpoinaa
open Go.RowKit

/-- How many of the first i numbers were not there before. -/
def fcN (l : List Int) : Nat → Nat
  | 0 => 0
  | i + 1 => fcN l i + (if (l.take i).contains (l.getD i 0) then 0 else 1)
theorem fcN_le (l : List Int) : ∀ i, fcN l i ≤ i
  | 0 => Nat.le_refl _
  | i + 1 => by
    have := fcN_le l i
    unfold fcN
    split <;> omega
theorem fcN_sub (l : List Int) : ∀ (i : Nat), i ≤ l.length → ∀ W : List Int, W.Nodup → (∀ x ∈ W, x ∈ l.take i) → W.length ≤ fcN l i
  | 0, _, W, _, h => by
    cases W with
    | nil => exact Nat.le_refl _
    | cons x W => have := h x (by simp); simp at this
  | i + 1, hi, W, hn, h => by
    unfold fcN
    rw [take_snoc l i (by omega)] at h
    by_cases hx : (l.take i).contains (l.getD i 0) = true
    · rw [if_pos hx]
      refine fcN_sub l i (by omega) W hn (fun y hy => ?_)
      have := h y hy
      rw [List.mem_append, List.mem_singleton] at this
      rcases this with h1 | rfl
      · exact h1
      · exact List.contains_iff_mem.1 hx
    · rw [if_neg hx]
      have h1 := fcN_sub l i (by omega) (W.erase (l.getD i 0)) (hn.erase _) (fun y hy => by
        have hy2 := (List.Nodup.mem_erase_iff hn).1 hy
        have := h y hy2.2
        rw [List.mem_append, List.mem_singleton] at this
        rcases this with h3 | h3
        · exact h3
        · exact absurd h3 hy2.1)
      have h4 : W.length ≤ (W.erase (l.getD i 0)).length + 1 := by
        rw [List.length_erase]
        split <;> omega
      omega
theorem prune_fc {held : List Int} {L : List Vn} (hg : Good L) : (pruneL held L).length ≤ fcN held held.length + 1 := by
  have hk : (keepR held L).length ≤ fcN held held.length + 1 := by
    cases L with
    | nil => simp [keepR]
    | cons x r =>
      obtain ⟨W, hn, hW, hl⟩ := keepR_wit held x r hg.2
      rw [hl]
      have := fcN_sub held held.length (Nat.le_refl _) W hn (fun y hy => by rw [List.take_length]; exact (hW y hy).1)
      omega
  unfold pruneL
  split
  · simp
  · exact hk

/-- Is a number among these? -/
def hasB (xs : List Int) (n : Int) : Bool := xs.contains n

set_option maxHeartbeats 1000000 in
theorem has_any (v : Value) (xs : List Int) (n : Int) (w : World) (h : Is w v xs) :
    Calls Try.prog 52 #[v, .int .i64 n] w fun e w' => e = .returned (.bool (hasB xs n)) ∧ w' = w := by
  obtain ⟨ao, cap, rfl, hlen, _, hcell⟩ := h
  have HC := hid hcell
  clear hcell
  go_enter Try.func52, Try.ntmps52
  go_wp2_with fail
  go_loopg [5] xs.length (fun g s5 wx => ∃ i : Nat, s5 = .int .i64 (i : Int) ∧ i + g = xs.length ∧ Hid (∀ j, j < i → xs.getD j 0 ≠ n) ∧ wx = w)
  case atStart => exact ⟨0, rfl, by omega, fun j hj => absurd hj (Nat.not_lt_zero j), rfl⟩
  case round =>
    obtain ⟨i, rfl, hg, HJ, rfl⟩ := hrel
    cases gk with
    | zero =>
      have t1 : ¬ (i : Int) < (xs.length : Int) := by omega
      have HE := hid (show i = xs.length by omega)
      clear hg
      go_wp2_with fail
      go_ret
      refine ⟨?_, rfl⟩
      have : hasB xs n = false := by
        unfold hasB
        rw [Bool.eq_false_iff]
        intro hc
        obtain ⟨j, hj, e⟩ := List.getElem_of_mem (List.contains_iff_mem.1 hc)
        refine HJ.out j (by rw [HE.out]; exact hj) ?_
        simp [List.getD, hj, e]
      rw [this]
      rfl
    | succ g =>
      have hi : i < xs.length := by omega
      have t1 : (i : Int) < (xs.length : Int) := by omega
      have HG := hid hg
      have HI := hid hi
      obtain ⟨b, off, rfl, hck⟩ := HC.out (by rintro rfl; simp at hi)
      have c1 := hck i hi
      have HM := hid (show xs.getD i 0 ∈ xs from by simp [List.getD, hi])
      clear hck hg hi
      generalize hy : xs.getD i 0 = y at *
      have HY := hid hy
      clear hy
      by_cases hn : y = n
      · subst hn
        go_wp2_with fail
        go_ret
        exact ⟨by rw [show hasB xs y = true from List.contains_iff_mem.2 HM.out]; rfl, rfl⟩
      · have t2 : (y == n) = false := by simpa using hn
        have HN := hid hn
        clear hn
        go_wp2_with fail
        go_roundg g
        case measure => omega
        case rel =>
          refine ⟨i + 1, by go_num, by have := HG.out; omega, fun j hj => ?_, rfl⟩
          rcases Nat.lt_or_ge j i with h | h
          · exact HJ.out j h
          · rw [show j = i by omega, HY.out]
            exact HN.out

set_option maxHeartbeats 1000000 in
theorem unlike_any (v : Value) (xs : List Int) (w : World) (h : Is w v xs) (hcp : Cp v) (hl : xs.length ≤ 1000000) :
    Calls Try.prog 22 #[v] w fun e w' => e = .returned (.int .i64 (fcN xs xs.length : Int)) ∧ Fr w w' (fun _ => False) := by
  obtain ⟨ao, cap, rfl, hlen, hfit, hcell⟩ := h
  have hcap := hcp _ _ _ rfl
  have HC := hid hcell
  have HFt := hid hfit
  clear hcell hcp hfit
  go_enter Try.func22, Try.ntmps22
  go_wp2_with fail
  go_loopg [3, 4] xs.length (fun g s3 s4 wx => ∃ (i c : Nat), s4 = .int .i64 (i : Int) ∧ s3 = .int .i64 (c : Int) ∧ i + g = xs.length ∧ c ≤ i ∧ Hid (c = fcN xs i) ∧ Hid (Fr w wx (fun _ => False)))
  case atStart => exact ⟨0, 0, rfl, rfl, by omega, by omega, rfl, Fr.refl _ _⟩
  case round =>
    obtain ⟨i, c, rfl, rfl, hg, hci, HCn, HF⟩ := hrel
    cases gk with
    | zero =>
      have t1 : ¬ (i : Int) < (xs.length : Int) := by omega
      have HE := hid (show i = xs.length by omega)
      clear hg
      go_wp2_with fail
      go_ret
      refine ⟨?_, HF.out⟩
      rw [← HE.out, ← HCn.out]
      rfl
    | succ g =>
      have hi : i < xs.length := by omega
      have t1 : (i : Int) < (xs.length : Int) := by omega
      have t0 : (0 : Int) ≤ (i : Int) := by omega
      have t2 : (i : Int) ≤ (cap : Int) := by omega
      have HG := hid hg
      obtain ⟨b, off, rfl, hck⟩ := HC.out (by rintro rfl; simp at hi)
      have hc0 := hck i hi
      have hbl := World.block_lt_of_cell? w _ hc0
      dsimp only at hbl
      have hr := fr_rules HF.out
      have c1 : wr.cell? ⟨b, off + i, none⟩ = some (.int .i64 (xs.getD i 0)) := by rw [hr.1 _ _ hbl]; exact hc0
      have HH := hid (fun (W : World) (hf : Fr w W (fun _ => False)) => has_any (.slice (some ⟨b, off, none⟩) i cap) (xs.take i) (xs.getD i 0) W (Is.fr ⟨some ⟨b, off, none⟩, cap, by rw [List.length_take, Nat.min_eq_left (by omega)], by rw [List.length_take]; omega, fun y hy => HFt.out y (List.take_subset _ _ hy), fun _ => ⟨b, off, rfl, fun j hj => by
        rw [List.length_take] at hj
        have e : (xs.take i).getD j 0 = xs.getD j 0 := by simp [List.getD, show j < i by omega]
        rw [e]
        exact hck j (by omega)⟩⟩ hf))
      have HNx : Hid (fcN xs (i + 1) = fcN xs i + (if hasB (xs.take i) (xs.getD i 0) then 0 else 1)) := rfl
      clear hck hg hi hr hc0
      generalize xs.getD i 0 = y at *
      generalize hb : hasB (xs.take i) y = bb at *
      have HBl := hid (fun (W : World) (hf : Fr wr W (fun _ => False)) => (show W.cell? ⟨b, off + i, none⟩ = some (.int .i64 y) from by rw [(fr_rules hf).1 _ _ (Nat.lt_of_lt_of_le hbl HF.out.size)]; exact c1))
      cases bb with
      | true =>
        go_wp2_with fail
        first
          | go_region_held3 (fun W' => Hid (Fr wr W' (fun _ => False)) ∧ W'.cell? ⟨b, off + i, none⟩ = some (.int .i64 y))
              ((refine (fun h => ⟨h, HBl.out _ h⟩ : Fr wr _ (fun _ => False) → _) ?_; repeat (first | exact Fr.refl _ _ | apply Fr.drew)))
              ((go_at_call 52; refine (HH.out _ (HF.out.trans (by repeat (first | exact Fr.refl _ _ | apply Fr.drew)))).mono ?_; rintro e w1 ⟨rfl, rfl⟩))
          | fail
        go_wp2_with fail
        go_roundg g
        case measure => omega
        case rel => exact ⟨i + 1, c, by go_num, rfl, by have := HG.out; omega, by omega, by show _ = _; rw [HNx.out, ← HCn.out]; rfl, HF.out.drew⟩
      | false =>
        go_wp2_with fail
        first
          | go_region_held3 (fun W' => Hid (Fr wr W' (fun _ => False)) ∧ W'.cell? ⟨b, off + i, none⟩ = some (.int .i64 y))
              ((refine (fun h => ⟨h, HBl.out _ h⟩ : Fr wr _ (fun _ => False) → _) ?_; repeat (first | exact Fr.refl _ _ | apply Fr.drew)))
              ((go_at_call 52; refine (HH.out _ (HF.out.trans (by repeat (first | exact Fr.refl _ _ | apply Fr.drew)))).mono ?_; rintro e w1 ⟨rfl, rfl⟩))
          | fail
        go_wp2_with fail
        go_roundg g
        case measure => omega
        case rel => exact ⟨i + 1, c + 1, by go_num, by go_num, by have := HG.out; omega, by omega, by show _ = _; rw [HNx.out, ← HCn.out]; rfl, HF.out.drew⟩
end Go.Proofs.Ytcmniejffpoinaa
