/- The document's flow: Empty, New: walks; what the calls keep. -/
import Derived.Test.YtlgbciibhmcokaaXRef4
namespace Go.Proofs.Ytlgbciibhmcokaa
open Go.RowKit

theorem sumL_zero {α : Type} (l : List (List α)) : ∀ k, k ≤ l.length → (∀ i, i < k → (l.getD i []).length = 0) → sumL l k = 0 := by
  intro k
  induction k with
  | zero => intro _ _; rfl
  | succ k ih =>
    intro hk h
    rw [sumL_step l (by omega), ih (by omega) (fun i hi => h i (by omega)), h k (by omega)]
theorem sumL_ge {α : Type} (l : List (List α)) {i : Nat} : ∀ k, i < k → k ≤ l.length → (l.getD i []).length ≤ sumL l k := by
  intro k
  induction k with
  | zero => intro h; omega
  | succ k ih =>
    intro h hk
    rw [sumL_step l (by omega)]
    rcases Nat.lt_or_ge i k with h' | h'
    · have := ih h' (by omega); omega
    · have : i = k := by omega
      subst this; omega
theorem empB_true {s : Ps} (hq : ∀ i, i < s.q.length → (s.q.getD i []).length = 0) (hb : ∀ i, i < s.b.length → (s.b.getD i []).length = 0) : empB s = true := by
  unfold empB
  rw [sumL_zero s.q _ (Nat.le_refl _) hq, sumL_zero s.b _ (Nat.le_refl _) hb]
  rfl
theorem empB_q {s : Ps} {i : Nat} (hi : i < s.q.length) (h : 0 < (s.q.getD i []).length) : empB s = false := by
  unfold empB
  have := sumL_ge s.q s.q.length hi (Nat.le_refl _)
  exact decide_eq_false (by omega)
theorem empB_b {s : Ps} {i : Nat} (hi : i < s.b.length) (h : 0 < (s.b.getD i []).length) : empB s = false := by
  unfold empB
  have := sumL_ge s.b s.b.length hi (Nat.le_refl _)
  exact decide_eq_false (by omega)
set_option maxHeartbeats 2000000 in
theorem rempty_any {lo : Nat} {w : World} {g : RX} {box : Nat} {s : Ps} (h : RF lo w g box s) (hw : Wf s box) : Calls Try.prog 31 #[.pointer (some ⟨g.R, 0, none⟩)] w fun e w' => e = .returned (.bool (empB s)) ∧ w' = w := by
  obtain ⟨c0, c1, c2, c3, hlt⟩ := h.cells
  have HRF := hid h
  have hq8 := hw.nf.2
  have hb8 := hw.nb.2
  have HQ : Hid (∀ i, i < s.q.length → ∃ ao cap, w.cell? ⟨g.Q, i, none⟩ = some (.slice ao (s.q.getD i []).length cap)) := fun i hi => by
    obtain ⟨ao, cap, _, d0⟩ := h.q.cell (i := i) (by rw [h.q.len]; exact hi)
    exact ⟨ao, cap, d0⟩
  have HB : Hid (∀ i, i < s.b.length → ∃ ao cap, w.cell? ⟨g.X, i, none⟩ = some (.slice ao (s.b.getD i []).length cap)) := fun i hi => by
    obtain ⟨ao, cap, _, d0⟩ := h.b.cell (i := i) (by rw [h.b.len]; exact hi)
    exact ⟨ao, cap, d0⟩
  have hQl := lt_of_block h.q.row
  have hXl := lt_of_block h.b.row
  have HEQ : Hid (∀ i, i < s.q.length → 0 < (s.q.getD i []).length → empB s = false) := fun i hi h => empB_q hi h
  have HEB : Hid (∀ i, i < s.b.length → 0 < (s.b.getD i []).length → empB s = false) := fun i hi h => empB_b hi h
  have HET : Hid ((∀ i, i < s.q.length → (s.q.getD i []).length = 0) → (∀ i, i < s.b.length → (s.b.getD i []).length = 0) → empB s = true) := fun h1 h2 => empB_true h1 h2
  clear h hw c0 c3
  go_enter Try.func31, Try.ntmps31
  go_wp2_with fail
  go_loopg [3] s.q.length (fun q s3 wx => ∃ i : Nat, s3 = .int .i64 (i : Int) ∧ Hid (i + q = s.q.length) ∧ Hid (∀ k, k < i → (s.q.getD k []).length = 0) ∧ wx = w)
  case atStart => exact ⟨0, rfl, by show _ = _; omega, (by intro k hk; omega), rfl⟩
  case round =>
    obtain ⟨i, rfl, HG, HA, rfl⟩ := hrel
    cases gk with
    | succ q =>
      have hi : i < s.q.length := by have := HG.out; omega
      have t1 : (i : Int) < (s.q.length : Int) := by omega
      obtain ⟨ao, cap, d0⟩ := HQ.out i hi
      by_cases hz : (s.q.getD i []).length = 0
      · have HA1 : Hid (∀ k, k < i + 1 → (s.q.getD k []).length = 0) := fun k hk => by
          rcases Nat.lt_or_ge k i with h' | h'
          · exact HA.out k h'
          · rw [show k = i by omega]; exact hz
        have t2 : ¬ (0 : Int) < ((s.q.getD i []).length : Int) := by omega
        rw [hz] at d0 t2
        clear hz hi
        go_wp2_with fail
        go_roundg q
        case measure => omega
        case rel => exact ⟨i + 1, by go_num, by have := HG.out; show _ = _; omega, HA1, rfl⟩
      · have t2 : (0 : Int) < ((s.q.getD i []).length : Int) := by omega
        have HE := hid (HEQ.out i hi (by omega))
        clear hz hi
        generalize (s.q.getD i []).length = l at *
        go_wp2_with fail
        go_ret
        exact ⟨by rw [HE.out]; rfl, rfl⟩
    | zero =>
      have t1 : ¬ (i : Int) < (s.q.length : Int) := by have := HG.out; omega
      have HAQ : Hid (∀ k, k < s.q.length → (s.q.getD k []).length = 0) := fun k hk => HA.out k (by have := HG.out; omega)
      clear HA HG
      go_wp2_with fail
      go_loopg [4] s.b.length (fun q s4 wx => ∃ i : Nat, s4 = .int .i64 (i : Int) ∧ Hid (i + q = s.b.length) ∧ Hid (∀ k, k < i → (s.b.getD k []).length = 0) ∧ wx = wr)
      case atStart => exact ⟨0, rfl, by show _ = _; omega, (by intro k hk; omega), rfl⟩
      case round =>
        obtain ⟨i2, rfl, HG, HA, rfl⟩ := hrel
        cases gk with
        | succ q =>
          have hi : i2 < s.b.length := by have := HG.out; omega
          have t3 : (i2 : Int) < (s.b.length : Int) := by omega
          obtain ⟨ao, cap, d0⟩ := HB.out i2 hi
          by_cases hz : (s.b.getD i2 []).length = 0
          · have HA1 : Hid (∀ k, k < i2 + 1 → (s.b.getD k []).length = 0) := fun k hk => by
              rcases Nat.lt_or_ge k i2 with h' | h'
              · exact HA.out k h'
              · rw [show k = i2 by omega]; exact hz
            have t2 : ¬ (0 : Int) < ((s.b.getD i2 []).length : Int) := by omega
            rw [hz] at d0 t2
            clear hz hi
            go_wp2_with fail
            go_roundg q
            case measure => omega
            case rel => exact ⟨i2 + 1, by go_num, by have := HG.out; show _ = _; omega, HA1, rfl⟩
          · have t2 : (0 : Int) < ((s.b.getD i2 []).length : Int) := by omega
            have HE := hid (HEB.out i2 hi (by omega))
            clear hz hi
            generalize (s.b.getD i2 []).length = l at *
            go_wp2_with fail
            go_ret
            exact ⟨by rw [HE.out]; rfl, rfl⟩
        | zero =>
          have t3 : ¬ (i2 : Int) < (s.b.length : Int) := by have := HG.out; omega
          have HE := hid (HET.out HAQ.out (fun k hk => HA.out k (by have := HG.out; omega)))
          go_wp2_with fail
          go_ret
          exact ⟨by rw [HE.out]; rfl, rfl⟩
/-- Inv is kept. -/
theorem Inv.put {s : Ps} (h : Inv s) (i : Int) (x : It) : Inv (putS s i x) := by
  unfold putS
  split
  · intro k hk
    obtain ⟨y, L, h1, h2⟩ := h k hk
    by_cases hl : i.toNat < s.q.length
    · by_cases e : k = i.toNat
      · subst e
        refine ⟨y, L ++ [x], ?_, h2⟩
        show (s.q.set _ _).getD _ [] = _
        rw [getD_set_same hl, h1]; rfl
      · refine ⟨y, L, ?_, h2⟩
        show (s.q.set _ _).getD _ [] = _
        rw [getD_set_other e]; exact h1
    · refine ⟨y, L, ?_, h2⟩
      show (s.q.set _ _).getD _ [] = _
      rw [List.set_eq_of_length_le (by omega)]; exact h1
  · exact h
theorem Inv.take {s : Ps} (h : Inv s) (i : Int) : Inv (takS s i) := by
  unfold takS
  split
  · exact h
  · exact h
theorem Inv.pass {s : Ps} (h : Inv s) (box : Nat) (i : Int) : Inv (pasS s box i) := by
  unfold pasS
  split
  · exact h
  · rename_i he
    split
    · exact h
    · obtain ⟨n, rfl, hn, x, L, hq, hr⟩ := fir_ok (Classical.not_not.1 he)
      rw [hr]
      simp only [Int.toNat_natCast]
      unfold pasT
      split
      · rename_i hc
        intro k hk
        change (s.n.set n _).getD k 0 ≠ 0 at hk
        by_cases e : k = n
        · subst e
          exact ⟨x, L, hq, hc.1⟩
        · rw [getD_set_other e] at hk
          exact h k hk
      · intro k hk
        change (s.n.set n 0).getD k 0 ≠ 0 at hk
        by_cases e : k = n
        · subst e
          exfalso
          apply hk
          by_cases hl : k < s.n.length
          · exact getD_set_same hl 0 0
          · rw [List.set_eq_of_length_le (by omega)]
            simp [List.getD, List.getElem?_eq_none (by omega : s.n.length ≤ k)]
        · rw [getD_set_other e] at hk
          obtain ⟨y, L', h1, h2⟩ := h k hk
          refine ⟨y, L', ?_, h2⟩
          show (s.q.set n _).getD k [] = _
          rw [getD_set_other e]; exact h1
theorem Inv.new (ns no : Nat) : Inv (newP ns no) := fun i hi => absurd (rep_getD ns i 0) hi
end Go.Proofs.Ytlgbciibhmcokaa
