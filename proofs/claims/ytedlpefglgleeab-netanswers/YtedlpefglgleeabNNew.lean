/- net: Open, New: walks. -/
import Derived.Test.YtedlpefglgleeabNNet2
namespace Go.Proofs.Ytedlpefglgleeab
open Go.RowKit

theorem cs_setK (g : Nx) (j : Nat) (hj : j < 64) (y : Cm) : (g.setK (j + 1) y).cs = g.cs.set (2 + j) (ptrC (some y)) := by
  unfold Nx.cs Nx.setK
  dsimp only
  rw [List.set_append_right _ _ (by simp), List.set_append_left _ _ (by simp; omega)]
  congr 2
  simp only [List.length_cons, List.length_nil]
  rw [show 2 + j - (0 + 1 + 1) = j by omega, map_range_set _ _ _ _ hj]
  apply List.map_congr_left
  intro i _
  by_cases e : i = j
  · subst e; simp
  · rw [if_neg e, if_neg (by omega)]
/-- Behind a new connection's store. -/
theorem Nt.opened {w w1 : World} {lo : Nat} {g : Nx} (h : Nt w lo g) {j : Nat} (hj : j < 64) (hk : g.K (j + 1) = none) {y : Cm} (hx : y.x = cp0) (hc : Cn w1 lo g.a g.b y) (hn : ∀ k, y.ow k → w.heap.size ≤ k) (hf : Fr w w1 (fun _ => False)) :
    w1.cell? ⟨g.B, 2 + j, none⟩ = some (.pointer none) ∧ w1.frozen? ⟨g.B, 2 + j, none⟩ = false ∧ g.B < w1.heap.size ∧ NtA w (w1.setCell ⟨g.B, 2 + j, none⟩ (.pointer (some ⟨y.k, 0, none⟩))) lo g (openS g.ps ((j : Int) + 1)) := by
  have h1 := h.still hf
  have hlt := lt_of_block h.cell
  have hs := h1.slot j hj
  rw [hk] at hs
  have hfs := set_fr w1 g.B (2 + j) (.pointer (some ⟨y.k, 0, none⟩))
  have hyB : ¬ y.ow g.B := fun e => by have := hn _ e; omega
  have hps : (g.setK (j + 1) y).ps = openS g.ps ((j : Int) + 1) := by
    have hcc : isC ((j : Int) + 1) = true := decide_eq_true (by omega)
    have e1 : ((j : Int) + 1).toNat = j + 1 := by omega
    unfold openS
    rw [hcc, e1]
    have e2 : g.ps.c (j + 1) = none := by unfold Nx.ps; simp [hk]
    rw [e2]
    rw [if_pos ⟨rfl, rfl⟩]
    unfold Nx.ps Nx.setK Np.upd
    rw [e1]
    simp only [Nat.add_zero, Np.mk.injEq, true_and, and_true]
    funext d
    split
    · rw [← hx]; rfl
    · rfl
  refine ⟨hs, h1.free _, h1.cells.2.2.2, g.setK (j + 1) y, rfl, hps, ⟨⟨?_, fun d z hz => ?_, fun d e z u k hde hz hu q1 q2 => ?_, fun d z hz q1 => ?_, h.lo⟩, ?_⟩, fun k hk' => ?_, ?_⟩
  · rw [cs_setK g j hj y]
    show (w1.setCell ⟨g.B, 2 + j, none⟩ _).heap[g.B]? = _
    rw [heap_setCell_same w1 g.B (2 + j) _ _ _ h1.cell]
    simp [ptrC]
  · change (if d = j + 1 then some y else g.K d) = some z at hz
    split at hz
    · cases hz
      exact hc.step hfs (fun k hk e => hyB (by rw [← e]; exact hk))
    · exact (h1.con d z hz).step hfs (fun k hk e => h.nb d z hz (by rw [← e]; exact hk))
  · change (if d = j + 1 then some y else g.K d) = some z at hz
    change (if e = j + 1 then some y else g.K e) = some u at hu
    have key : ∀ d z k, g.K d = some z → y.ow k → ¬ z.ow k := fun d z k hz h1 h2 => by
      have a1 := hn k h1
      have a2 := (h.con d z hz).lt h2
      omega
    split at hz <;> split at hu
    · omega
    · cases hz; exact key e u k hu q1 q2
    · cases hu; exact key d z k hz q2 q1
    · exact h.ap d e z u k hde hz hu q1 q2
  · change (if d = j + 1 then some y else g.K d) = some z at hz
    split at hz
    · cases hz; exact hyB q1
    · exact h.nb d z hz q1
  · rw [hps]
    exact wf_open h.wf _
  · rcases hk' with e | ⟨d, z, hz, q1⟩
    · exact Or.inl (Or.inl e)
    · change (if d = j + 1 then some y else g.K d) = some z at hz
      split at hz
      · cases hz; exact Or.inr (hn k q1)
      · exact Or.inl (Or.inr ⟨d, z, hz, q1⟩)
  · exact (hf.mono (fun _ _ h => h.elim)).trans (hfs.mono (fun k _ e => Or.inl e))
set_option maxHeartbeats 2000000 in
theorem nopen_any {w : World} {lo : Nat} {g : Nx} (h : Nt w lo g) (hlo : lo ≤ w.heap.size) (c : Int) : Calls Try.prog 7 #[.pointer (some ⟨g.B, 0, none⟩), .int .i64 c] w fun e w' => e = .returned (.int .i64 (openE g.ps c)) ∧ NtA w w' lo g (openS g.ps c) := by
  have HF := hid (from1_any c 64 w)
  obtain ⟨c0, c1, _, hlt⟩ := h.cells
  by_cases hc : 1 ≤ c ∧ c ≤ 64
  · obtain ⟨j, rfl⟩ : ∃ j : Nat, c = (j : Int) + 1 := ⟨(c - 1).toNat, by omega⟩
    have hj : j < 64 := by omega
    have hs := h.slot j hj
    have hcc : isC ((j : Int) + 1) = true := decide_eq_true hc
    rw [decide_eq_true hc] at HF
    have t1 : (j : Int) < 64 := by omega
    have t0 : (0 : Int) ≤ (j : Int) := by omega
    have e1 : ((j : Int) + 1).toNat = j + 1 := by omega
    have e2 : g.ps.c (j + 1) = (g.K (j + 1)).map Cm.x := rfl
    cases hk : g.K (j + 1) with
    | some y =>
      have e3 : openE g.ps ((j : Int) + 1) = 43 := by unfold openE; rw [hcc, e1, e2, hk]; rfl
      have e4 : openS g.ps ((j : Int) + 1) = g.ps := by unfold openS; rw [hcc, e1, e2, hk, if_neg (by simp)]
      rw [e3, e4]
      have HS := hid (h.same (Fr.refl w _))
      rw [hk] at hs
      change w.cell? ⟨g.B, 2 + j, none⟩ = some (.pointer (some ⟨y.k, 0, none⟩)) at hs
      clear h hc hj e1 e2 e3 e4 hcc hk
      go_enter Try.func7, Try.ntmps7
      go_wp2_with fail
      refine HF.out.mono ?_
      rintro e w1 ⟨rfl, h9⟩
      obtain rfl : w = w1 := h9.symm
      clear h9
      go_wp2_with fail
      go_ret
      exact ⟨rfl, HS.out⟩
    | none =>
      have e3 : openE g.ps ((j : Int) + 1) = 0 := by unfold openE; rw [hcc, e1, e2, hk]; rfl
      rw [e3]
      have HO : Hid (∀ w1 y, y.x = cp0 → Cn w1 lo g.a g.b y → (∀ k, y.ow k → w.drew.heap.size ≤ k) → Fr w.drew w1 (fun _ => False) → w1.cell? ⟨g.B, 2 + j, none⟩ = some (.pointer none) ∧ w1.frozen? ⟨g.B, 2 + j, none⟩ = false ∧ g.B < w1.heap.size ∧ NtA w (w1.setCell ⟨g.B, 2 + j, none⟩ (.pointer (some ⟨y.k, 0, none⟩))) lo g (openS g.ps ((j : Int) + 1))) := fun w1 y q1 q2 q3 q4 => h.opened hj hk q1 q2 q3 (Fr.ofDrew q4)
      rw [hk] at hs
      change w.cell? ⟨g.B, 2 + j, none⟩ = some (.pointer none) at hs
      have HN := hid (newConn_any w.drew lo g.a g.b hlo)
      clear h hc hj e1 e2 e3 hcc hk
      generalize openS g.ps ((j : Int) + 1) = S2 at *
      have hwj : IntKind.i64.wrap (j : Int) = (j : Int) := wrap_fit (by unfold fits; omega)
      go_enter Try.func7, Try.ntmps7
      go_wp2_with fail
      refine HF.out.mono ?_
      rintro e w1 ⟨rfl, h9⟩
      obtain rfl : w = w1 := h9.symm
      clear h9
      go_wp2_with fail
      go_region_with (go_at_call 25; refine HN.out.mono ?_; rintro e w2 ⟨y, rfl, q1, q2, q3, q4⟩; obtain ⟨d0, d1, d2, q5⟩ := HO.out _ _ q1 q2 q3 q4; have HQ := hid q5; clear q1 q2 q3 q4 q5)
      all_goals
        go_wp2_with fail
        go_ret
        exact ⟨rfl, HQ.out⟩
  · have hcc : isC c = false := decide_eq_false hc
    have e3 : openE g.ps c = 1 := by unfold openE; rw [hcc]; simp
    have e4 : openS g.ps c = g.ps := by unfold openS; rw [hcc, if_neg (by simp)]
    rw [e3, e4]
    rw [decide_eq_false hc] at HF
    have HS := hid (h.same (Fr.refl w _))
    clear h hc e3 e4 hcc
    go_enter Try.func7, Try.ntmps7
    go_wp2_with fail
    refine HF.out.mono ?_
    rintro e w1 ⟨rfl, h9⟩
    obtain rfl : w = w1 := h9.symm
    clear h9
    go_wp2_with fail
    go_ret
    exact ⟨rfl, HS.out⟩
theorem zeros_net : ∃ zs : Array Value, zs = (Nx.cs ⟨0, 0, 0, fun _ => none, 0⟩).toArray ∧ ∀ w : World, (zeroValue 57).run Try.prog w = .ok (.agg zs) w := ⟨_, rfl, fun w => by kernel_rfl⟩
theorem nnew_bad (w : World) (a b : Int) (hab : ¬ (1 ≤ a ∧ a ≤ 131072) ∨ ¬ (1 ≤ b ∧ b ≤ 131072)) : Calls Try.prog 6 #[.int .i64 a, .int .i64 b] w fun e w' => e = .returned (.tuple #[.pointer none, .int .i64 1]) ∧ w' = w := by
  have HF := hid (from1_any a 131072 w)
  have HG := hid (from1_any b 131072 w)
  by_cases ha : 1 ≤ a ∧ a ≤ 131072
  · have hb : ¬ (1 ≤ b ∧ b ≤ 131072) := by rcases hab with h | h; exact absurd ha h; exact h
    rw [decide_eq_true ha] at HF
    rw [decide_eq_false hb] at HG
    go_enter Try.func6, Try.ntmps6
    go_wp2_with fail
    refine HF.out.mono ?_
    rintro e w1 ⟨rfl, h9⟩
    obtain rfl : w = w1 := h9.symm
    clear h9
    go_wp2_with fail
    refine HG.out.mono ?_
    rintro e w1 ⟨rfl, h9⟩
    obtain rfl : w = w1 := h9.symm
    clear h9
    go_wp2_with fail
    go_ret2
    exact ⟨rfl, rfl⟩
  · rw [decide_eq_false ha] at HF
    go_enter Try.func6, Try.ntmps6
    go_wp2_with fail
    refine HF.out.mono ?_
    rintro e w1 ⟨rfl, h9⟩
    obtain rfl : w = w1 := h9.symm
    clear h9
    go_wp2_with fail
    go_ret2
    exact ⟨rfl, rfl⟩
set_option maxHeartbeats 2000000 in
theorem nnew_ok (w : World) (lo a b : Nat) (hlo : lo ≤ w.heap.size) (ha : 1 ≤ a ∧ a ≤ 131072) (hb : 1 ≤ b ∧ b ≤ 131072) : Calls Try.prog 6 #[.int .i64 (a : Int), .int .i64 (b : Int)] w fun e w' => ∃ g : Nx, e = .returned (.tuple #[.pointer (some ⟨g.B, 0, none⟩), .int .i64 0]) ∧ g.ps = np0 a b ∧ Nt w' lo g ∧ (∀ k, g.ow k → w.heap.size ≤ k) ∧ Fr w w' (fun _ => False) := by
  have HF := hid (from1_any (a : Int) 131072 w)
  have HG := hid (from1_any (b : Int) 131072 w)
  rw [decide_eq_true (show 1 ≤ (a : Int) ∧ (a : Int) ≤ 131072 by omega)] at HF
  rw [decide_eq_true (show 1 ≤ (b : Int) ∧ (b : Int) ≤ 131072 by omega)] at HG
  obtain ⟨zs, hzs, hzv⟩ := zeros_net
  have HZ := hid hzs
  have hsz : zs.size = 67 := by rw [hzs]; rfl
  have hne : ¬ zs = #[] := fun e => by rw [e] at hsz; cases hsz
  clear hzs
  go_enter Try.func6, Try.ntmps6
  go_wp2_with fail
  refine HF.out.mono ?_
  rintro e w1 ⟨rfl, h9⟩
  obtain rfl : w = w1 := h9.symm
  clear h9
  go_wp2_with fail
  refine HG.out.mono ?_
  rintro e w1 ⟨rfl, h9⟩
  obtain rfl : w = w1 := h9.symm
  clear h9
  go_wp2_with fail
  go_ret2
  have e1 : ((zs.setIfInBounds 0 (Value.int IntKind.i64 (a : Int))).setIfInBounds 1 (Value.int IntKind.i64 (b : Int))) = (Nx.cs ⟨w.heap.size, a, b, fun _ => none, 0⟩).toArray := by
    rw [HZ.out]
    unfold Nx.cs
    simp
  rw [e1]
  refine ⟨⟨w.heap.size, a, b, fun _ => none, 0⟩, rfl, ?_, ⟨⟨heap_alloc_new w _, fun c y hy => (by cases hy), fun c d y z k _ hy => (by cases hy), fun c y hy => (by cases hy), hlo⟩, wf_new ha hb⟩, fun k hk => ?_, alloc_fr w _ _⟩
  · rfl
  · rcases hk with e | ⟨c, y, hy, _⟩
    · exact Nat.le_of_eq e.symm
    · cases hy
end Go.Proofs.Ytedlpefglgleeab
