/- net: a net in memory; find, open, count, Moved: walks. -/
import Derived.Test.YtedlpefglgleeabNSide4
import Derived.Test.YtedlpefglgleeabNPure2
import Derived.Laws.LoneSync
namespace Go.Proofs.Ytedlpefglgleeab
open Go.RowKit

/-- A net in memory. -/
structure Nx where
  B : Nat
  a : Nat
  b : Nat
  K : Nat → Option Cm
  m : Nat
def ptrC : Option Cm → Value
  | none => .pointer none
  | some y => .pointer (some ⟨y.k, 0, none⟩)
def Nx.cs (g : Nx) : List Value := [.int .i64 (g.a : Int), .int .i64 (g.b : Int)] ++ ((List.range 64).map (fun j => ptrC (g.K (j + 1))) ++ [.int .i64 (g.m : Int)])
def Nx.ps (g : Nx) : Np := ⟨g.a, g.b, fun c => (g.K c).map Cm.x, g.m⟩
def Nx.ow (g : Nx) (k : Nat) : Prop := k = g.B ∨ ∃ c y, g.K c = some y ∧ y.ow k
structure Nt0 (w : World) (lo : Nat) (g : Nx) : Prop where
  cell : w.heap[g.B]? = some (.cells g.cs.toArray 57 (0, 0))
  con : ∀ c y, g.K c = some y → Cn w lo g.a g.b y
  ap : ∀ c d y z k, c ≠ d → g.K c = some y → g.K d = some z → y.ow k → ¬ z.ow k
  nb : ∀ c y, g.K c = some y → ¬ y.ow g.B
  lo : lo ≤ g.B
structure Nt (w : World) (lo : Nat) (g : Nx) : Prop extends Nt0 w lo g where
  wf : Wf g.ps
theorem Nt.step {w w' : World} {S : Nat → Prop} {lo : Nat} {g : Nx} (h : Nt w lo g) (hf : Fr w w' S) (hS : ∀ k, g.ow k → ¬ S k) : Nt w' lo g :=
  ⟨⟨keep_block h.cell hf (hS _ (Or.inl rfl)), fun c y hy => (h.con c y hy).step hf (fun k hk => hS k (Or.inr ⟨c, y, hy, hk⟩)), h.ap, h.nb, h.lo⟩, h.wf⟩
theorem Nt.still {w w' : World} {lo : Nat} {g : Nx} (h : Nt w lo g) (hf : Fr w w' (fun _ => False)) : Nt w' lo g := h.step hf (fun _ _ h => h)
theorem Nt.lt {w : World} {lo : Nat} {g : Nx} (h : Nt w lo g) {k : Nat} (hk : g.ow k) : k < w.heap.size := by
  rcases hk with rfl | ⟨c, y, hy, hk⟩
  · exact lt_of_block h.cell
  · exact (h.con c y hy).lt hk
theorem Nt.ge {w : World} {lo : Nat} {g : Nx} (h : Nt w lo g) {k : Nat} (hk : g.ow k) : lo ≤ k := by
  rcases hk with rfl | ⟨c, y, hy, hk⟩
  · exact h.lo
  · exact (h.con c y hy).ge hk
/-- What a call leaves of a net. -/
def NtA (w w' : World) (lo : Nat) (g : Nx) (s : Np) : Prop := ∃ g' : Nx, g'.B = g.B ∧ g'.ps = s ∧ Nt w' lo g' ∧ Gr w g.ow g'.ow ∧ Fr w w' g.ow
theorem Nt.same {w w' : World} {lo : Nat} {g : Nx} (h : Nt w lo g) (hf : Fr w w' (fun _ => False)) : NtA w w' lo g g.ps := ⟨g, rfl, rfl, h.still hf, Gr.refl _ _, hf.mono (fun _ _ h => h.elim)⟩
theorem NtA.pre {w w1 w2 : World} {lo : Nat} {g : Nx} {x : Np} (hf : Fr w w1 (fun _ => False)) (h : NtA w1 w2 lo g x) : NtA w w2 lo g x := by
  obtain ⟨g', h1, h2, h3, h4, h5⟩ := h
  refine ⟨g', h1, h2, h3, fun k hk => ?_, (hf.mono (fun _ _ h => h.elim)).trans h5⟩
  have := hf.size
  rcases h4 k hk with h | h
  · exact Or.inl h
  · exact Or.inr (by omega)
theorem NtA.still {w w1 w2 : World} {lo : Nat} {g : Nx} {x : Np} (h : NtA w w1 lo g x) (hf : Fr w1 w2 (fun _ => False)) : NtA w w2 lo g x := by
  obtain ⟨g', h1, h2, h3, h4, h5⟩ := h
  exact ⟨g', h1, h2, h3.still hf, h4, h5.trans (hf.mono (fun _ _ h => h.elim))⟩
def Nx.at (g : Nx) (c : Int) : Option Cm := if isC c then g.K c.toNat else none
theorem ps_at (g : Nx) (c : Int) : g.ps.at c = (g.at c).map Cm.x := by
  unfold Np.at Nx.at Nx.ps
  split <;> rfl
theorem map_range_set (f : Nat → Value) (n j : Nat) (u : Value) (hj : j < n) : ((List.range n).map f).set j u = (List.range n).map (fun i => if i = j then u else f i) := by
  apply List.ext_getElem?
  intro i
  by_cases hi : i = j
  · subst hi
    simp [hj]
  · rw [List.getElem?_set_ne (Ne.symm hi), List.getElem?_map, List.getElem?_map]
    rcases Nat.lt_or_ge i n with h | h
    · rw [List.getElem?_range h]; simp [hi]
    · rw [List.getElem?_eq_none (by simpa using h)]; rfl
/-- A connection's slot. -/
theorem Nt0.slot {w : World} {lo : Nat} {g : Nx} (h : Nt0 w lo g) (j : Nat) (hj : j < 64) : w.cell? ⟨g.B, 2 + j, none⟩ = some (ptrC (g.K (j + 1))) := by
  rw [cell_of_row w g.B _ _ _ (0, 0) h.cell]
  unfold Nx.cs
  rw [List.getElem?_toArray, List.getElem?_append_right (by simp), List.getElem?_append_left (by simp; omega)]
  simp [hj]
theorem Nt0.cells {w : World} {lo : Nat} {g : Nx} (h : Nt0 w lo g) : w.cell? ⟨g.B, 0, none⟩ = some (.int .i64 (g.a : Int)) ∧ w.cell? ⟨g.B, 1, none⟩ = some (.int .i64 (g.b : Int)) ∧ w.cell? ⟨g.B, 66, none⟩ = some (.int .i64 (g.m : Int)) ∧ g.B < w.heap.size := by
  refine ⟨?_, ?_, ?_, lt_of_block h.cell⟩ <;> rw [cell_of_row w g.B _ _ _ (0, 0) h.cell] <;> unfold Nx.cs
  · rfl
  · rfl
  · rw [List.getElem?_toArray, List.getElem?_append_right (by simp), List.getElem?_append_right (by simp)]
    simp
theorem Nt0.free {w : World} {lo : Nat} {g : Nx} (h : Nt0 w lo g) (o : Nat) : w.frozen? ⟨g.B, o, none⟩ = false := free_of h.cell o
def Nx.add (g : Nx) (k : Nat) : Nx := { g with m := g.m + k }
/-- Behind a count. -/
theorem Nt0.count {w : World} {lo : Nat} {g : Nx} (h : Nt0 w lo g) (k : Nat) : Nt0 (w.setCell ⟨g.B, 66, none⟩ (.int .i64 ((g.m + k : Nat) : Int))) lo (g.add k) ∧ Fr w (w.setCell ⟨g.B, 66, none⟩ (.int .i64 ((g.m + k : Nat) : Int))) g.ow := by
  have hf := set_fr w g.B 66 (.int .i64 ((g.m + k : Nat) : Int))
  refine ⟨⟨?_, fun c y hy => (h.con c y hy).step hf (fun q hq e => h.nb c y hy (by rw [← e]; exact hq)), h.ap, h.nb, h.lo⟩, hf.mono (fun k _ e => Or.inl e)⟩
  · show (w.setCell ⟨g.B, 66, none⟩ (.int .i64 ((g.m + k : Nat) : Int))).heap[g.B]? = _
    rw [heap_setCell_same w g.B 66 _ _ _ h.cell]
    unfold Nx.cs Nx.add
    simp
def Nx.setK (g : Nx) (c : Nat) (y : Cm) : Nx := { g with K := fun d => if d = c then some y else g.K d }
/-- Behind a call of one connection. -/
theorem Nt0.connE {w w' : World} {lo : Nat} {g : Nx} (h : Nt0 w lo g) {c : Nat} {y : Cm} (hy : g.K c = some y) {x : Cp} {y' : Cm} (k1 : y'.k = y.k) (k2 : y'.x = x) (k3 : Cn w' lo g.a g.b y') (k4 : Gr w y.ow y'.ow) (k5 : Fr w w' y.ow) : (g.setK c y').ps = g.ps.upd (c : Int) x 0 ∧ Nt0 w' lo (g.setK c y') ∧ Gr w g.ow (g.setK c y').ow ∧ Fr w w' g.ow := by
  have hps : (g.setK c y').ps = g.ps.upd (c : Int) x 0 := by
    unfold Nx.ps Nx.setK Np.upd
    simp only [Int.toNat_natCast, Nat.add_zero, Np.mk.injEq, true_and, and_true]
    funext d
    split
    · rw [← k2]; rfl
    · rfl
  have hcs : (g.setK c y').cs = g.cs := by
    unfold Nx.cs Nx.setK
    congr 2
    apply List.map_congr_left
    intro j _
    dsimp only
    split
    · rename_i e
      rw [e, hy]
      show Value.pointer (some ⟨y'.k, 0, none⟩) = Value.pointer (some ⟨y.k, 0, none⟩)
      rw [k1]
    · rfl
  have key : ∀ d z k, d ≠ c → g.K d = some z → y'.ow k → ¬ z.ow k := fun d z k hd hz h1 h2 => by
    rcases k4 k h1 with h3 | h3
    · exact h.ap c d y z k (fun e => hd e.symm) hy hz h3 h2
    · have := (h.con d z hz).lt h2; omega
  refine ⟨hps, ⟨?_, fun d z hz => ?_, fun d e z u k hde hz hu h1 h2 => ?_, fun d z hz h1 => ?_, h.lo⟩, fun k hk => ?_, k5.mono (fun k _ e => Or.inr ⟨c, y, hy, e⟩)⟩
  · rw [hcs]
    exact keep_block h.cell k5 (h.nb c y hy)
  · change (if d = c then some y' else g.K d) = some z at hz
    split at hz
    · cases hz; exact k3
    · rename_i e
      exact (h.con d z hz).step k5 (fun k h1 h2 => h.ap c d y z k (fun e2 => e e2.symm) hy hz h2 h1)
  · change (if d = c then some y' else g.K d) = some z at hz
    change (if e = c then some y' else g.K e) = some u at hu
    split at hz <;> split at hu
    · omega
    · cases hz; exact key e u k (by assumption) hu h1 h2
    · cases hu; exact key d z k (by assumption) hz h2 h1
    · exact h.ap d e z u k hde hz hu h1 h2
  · change (if d = c then some y' else g.K d) = some z at hz
    split at hz
    · cases hz
      rcases k4 _ h1 with h3 | h3
      · exact h.nb c y hy h3
      · have := lt_of_block h.cell
        change w.heap.size ≤ g.B at h3
        omega
    · exact h.nb d z hz h1
  · rcases hk with e | ⟨d, z, hz, h1⟩
    · exact Or.inl (Or.inl e)
    · change (if d = c then some y' else g.K d) = some z at hz
      split at hz
      · cases hz
        rcases k4 k h1 with h3 | h3
        · exact Or.inl (Or.inr ⟨c, y, hy, h3⟩)
        · exact Or.inr h3
      · exact Or.inl (Or.inr ⟨d, z, hz, h1⟩)
theorem Nt.conn {w w' : World} {lo : Nat} {g : Nx} (h : Nt w lo g) {c : Nat} {y : Cm} (hy : g.K c = some y) {x : Cp} (hA : CnA w w' lo g.a g.b y x) (hw : Wf (g.ps.upd (c : Int) x 0)) : NtA w w' lo g (g.ps.upd (c : Int) x 0) := by
  obtain ⟨y', k1, k2, k3, k4, k5⟩ := hA
  obtain ⟨j1, j2, j3, j4⟩ := h.connE hy k1 k2 k3 k4 k5
  exact ⟨g.setK c y', rfl, j1, ⟨j2, by rw [j1]; exact hw⟩, j3, j4⟩
set_option maxHeartbeats 1000000 in
theorem find_any {w : World} {lo : Nat} {g : Nx} (h : Nt w lo g) (c : Int) : Calls Try.prog 28 #[.pointer (some ⟨g.B, 0, none⟩), .int .i64 c] w fun e w' => e = .returned (.tuple #[ptrC (g.at c), .int .i64 (findE g.ps c)]) ∧ w' = w := by
  have HF := hid (from1_any c 64 w)
  have hlt := h.cells.2.2.2
  unfold findE
  rw [ps_at]
  by_cases hc : 1 ≤ c ∧ c ≤ 64
  · obtain ⟨j, rfl⟩ : ∃ j : Nat, c = (j : Int) + 1 := ⟨(c - 1).toNat, by omega⟩
    have hj : j < 64 := by omega
    have hs := h.slot j hj
    have e1 : g.at ((j : Int) + 1) = g.K (j + 1) := by
      unfold Nx.at isC
      rw [decide_eq_true hc, if_pos rfl]
      congr 1
    rw [e1]
    rw [decide_eq_true hc] at HF
    have t1 : (j : Int) < 64 := by omega
    have t0 : (0 : Int) ≤ (j : Int) := by omega
    have e3 : goneE ((j : Int) + 1) = 44 := by unfold goneE isC; rw [decide_eq_true hc]; rfl
    rw [e3]
    clear h e1 e3 hc hj
    cases hk : g.K (j + 1) with
    | none =>
      rw [hk] at hs
      change w.cell? ⟨g.B, 2 + j, none⟩ = some (.pointer none) at hs
      show Calls _ _ _ _ (fun e w' => e = .returned (.tuple #[.pointer none, .int .i64 44]) ∧ w' = w)
      go_enter Try.func28, Try.ntmps28
      go_wp2_with fail
      refine HF.out.mono ?_
      rintro e w1 ⟨rfl, h9⟩
      obtain rfl : w = w1 := h9.symm
      clear h9
      go_wp2_with fail
      go_ret2
      exact ⟨rfl, rfl⟩
    | some y =>
      rw [hk] at hs
      change w.cell? ⟨g.B, 2 + j, none⟩ = some (.pointer (some ⟨y.k, 0, none⟩)) at hs
      show Calls _ _ _ _ (fun e w' => e = .returned (.tuple #[.pointer (some ⟨y.k, 0, none⟩), .int .i64 0]) ∧ w' = w)
      go_enter Try.func28, Try.ntmps28
      go_wp2_with fail
      refine HF.out.mono ?_
      rintro e w1 ⟨rfl, h9⟩
      obtain rfl : w = w1 := h9.symm
      clear h9
      go_wp2_with fail
      go_ret2
      exact ⟨rfl, rfl⟩
  · have e1 : g.at c = none := by unfold Nx.at isC; rw [decide_eq_false hc]; simp
    have e3 : goneE c = 1 := by unfold goneE isC; rw [decide_eq_false hc]; simp
    rw [e1]
    rw [decide_eq_false hc] at HF
    show Calls _ _ _ _ (fun e w' => e = .returned (.tuple #[.pointer none, .int .i64 (goneE c)]) ∧ w' = w)
    rw [e3]
    clear h e1 e3 hc
    go_enter Try.func28, Try.ntmps28
    go_wp2_with fail
    refine HF.out.mono ?_
    rintro e w1 ⟨rfl, h9⟩
    obtain rfl : w = w1 := h9.symm
    clear h9
    go_wp2_with fail
    go_ret2
    exact ⟨rfl, rfl⟩
theorem Try.xn_add : (Try.f51.name == "runtime.NumGoroutine") = false := by kernel_rfl
theorem Try.xx_add : Extern.findNext Try.f51 = none := by kernel_rfl
theorem Try.xe_add : Extern.find Try.f51 = some (Extern.Atomic.update (Op.intArith .add) .i64 true) := by kernel_rfl
theorem Try.xn_load : (Try.f50.name == "runtime.NumGoroutine") = false := by kernel_rfl
theorem Try.xx_load : Extern.findNext Try.f50 = none := by kernel_rfl
theorem Try.xe_load : Extern.find Try.f50 = some (Extern.Atomic.loadT (.int .i64)) := by kernel_rfl
set_option maxHeartbeats 1000000 in
theorem addI_any {w : World} {B : Nat} {m k : Nat} (h : w.cell? ⟨B, 66, none⟩ = some (.int .i64 (m : Int))) (hz : w.frozen? ⟨B, 66, none⟩ = false) (hm : m + k ≤ 9223372036854775807) : Calls Try.prog 44 #[.pointer (some ⟨B, 66, none⟩), .int .i64 (k : Int)] w fun e w' => (∃ n, e = .returned (.int .i64 n)) ∧ w' = w.setCell ⟨B, 66, none⟩ (.int .i64 ((m + k : Nat) : Int)) := by
  have hw : IntKind.i64.wrap ((m : Int) + (k : Int)) = ((m + k : Nat) : Int) := by rw [IntKind.wrap_i64]; omega
  have hd : (callFunc 51 #[.pointer (some ⟨B, 66, none⟩), .int .i64 (k : Int)]).run Try.prog w = .ok (.value (.int .i64 ((m + k : Nat) : Int))) (w.setCell ⟨B, 66, none⟩ (.int .i64 ((m + k : Nat) : Int))) :=
    run_call_add Try.func51 Try.xn_add rfl Try.xx_add .i64 Try.xe_add h hz (by rw [← hw]; simp [Op.intArith])
  go_enter Try.func44, Try.ntmps44
  go_wp2_with fail
  go_ret
  exact ⟨⟨_, rfl⟩, rfl⟩
set_option maxHeartbeats 1000000 in
theorem loadI_any {w : World} {B : Nat} {m : Nat} (h : w.cell? ⟨B, 66, none⟩ = some (.int .i64 (m : Int))) : Calls Try.prog 41 #[.pointer (some ⟨B, 66, none⟩)] w fun e w' => e = .returned (.int .i64 (m : Int)) ∧ w' = w := by
  have hd : (callFunc 50 #[.pointer (some ⟨B, 66, none⟩)]).run Try.prog w = .ok (.value (.int .i64 (m : Int))) w :=
    run_call_load Try.func50 Try.xn_load rfl Try.xx_load .i64 Try.xe_load h
  go_enter Try.func41, Try.ntmps41
  go_wp2_with fail
  go_ret
  exact ⟨rfl, rfl⟩
set_option maxHeartbeats 1000000 in
theorem moved_any {w : World} {lo : Nat} {g : Nx} (h : Nt w lo g) : Calls Try.prog 19 #[.pointer (some ⟨g.B, 0, none⟩)] w fun e w' => e = .returned (.int .i64 (g.m : Int)) ∧ w' = w := by
  obtain ⟨_, _, c, hlt⟩ := h.cells
  have HL := hid (loadI_any c)
  clear h
  go_enter Try.func19, Try.ntmps19
  go_wp2_with fail
  refine HL.out.mono ?_
  rintro e w1 ⟨rfl, h9⟩
  obtain rfl : w = w1 := h9.symm
  clear h9
  go_wp2_with fail
  go_ret
  exact ⟨rfl, rfl⟩
set_option maxHeartbeats 1000000 in
theorem count_any {w : World} {lo : Nat} {g : Nx} (h : Nt0 w lo g) (k : Nat) (hm : g.m + k ≤ 9223372036854775807) : Calls Try.prog 29 #[.pointer (some ⟨g.B, 0, none⟩), .int .i64 (k : Int)] w fun e w' => e = .returned (.int .i64 (k : Int)) ∧ Nt0 w' lo (g.add k) ∧ Fr w w' g.ow := by
  obtain ⟨_, _, c, hlt⟩ := h.cells
  have HL := hid (addI_any c (h.free _) hm)
  have HC := hid (h.count k)
  clear h c
  go_enter Try.func29, Try.ntmps29
  go_wp2_with fail
  refine HL.out.mono ?_
  rintro e w1 ⟨⟨n, rfl⟩, h9⟩
  subst h9
  go_wp2_with fail
  go_ret
  exact ⟨rfl, HC.out⟩
/-- What open answers. -/
def Nx.use (g : Nx) (c : Int) : Option Cm := match g.at c with | none => none | some y => if y.x.shut then none else some y
set_option maxHeartbeats 1000000 in
theorem openI_any {w : World} {lo : Nat} {g : Nx} (h : Nt w lo g) (c : Int) : Calls Try.prog 26 #[.pointer (some ⟨g.B, 0, none⟩), .int .i64 c] w fun e w' => e = .returned (.tuple #[ptrC (g.use c), .int .i64 (useE g.ps c)]) ∧ w' = w := by
  have HF := hid (find_any h c)
  unfold useE Nx.use
  unfold findE at HF
  rw [ps_at] at HF ⊢
  cases hk : g.at c with
  | none =>
    rw [hk] at HF
    change Hid (Calls _ _ _ _ (fun e w' => e = .returned (.tuple #[.pointer none, .int .i64 (goneE c)]) ∧ w' = w)) at HF
    show Calls _ _ _ _ (fun e w' => e = .returned (.tuple #[.pointer none, .int .i64 (goneE c)]) ∧ w' = w)
    have t1 : (goneE c == 0) = false := by
      unfold goneE
      split <;> rfl
    clear h hk
    generalize goneE c = ge at *
    go_enter Try.func26, Try.ntmps26
    go_wp2_with fail
    refine HF.out.mono ?_
    rintro e w1 ⟨rfl, h9⟩
    obtain rfl : w = w1 := h9.symm
    clear h9
    go_wp2_with fail
    go_ret2
    exact ⟨rfl, rfl⟩
  | some y =>
    rw [hk] at HF
    have hc : g.K c.toNat = some y := by
      unfold Nx.at at hk
      split at hk
      · exact hk
      · cases hk
    have HO := hid (isOpen_any (h.con _ _ hc))
    change Hid (Calls _ _ _ _ (fun e w' => e = .returned (.tuple #[.pointer (some ⟨y.k, 0, none⟩), .int .i64 0]) ∧ w' = w)) at HF
    show Calls _ _ _ _ (fun e w' => e = .returned (.tuple #[ptrC (if y.x.shut then none else some y), .int .i64 (if y.x.shut then 44 else 0)]) ∧ w' = w)
    clear h hk hc
    cases hs : y.x.shut with
    | true =>
      rw [hs] at HO
      show Calls _ _ _ _ (fun e w' => e = .returned (.tuple #[.pointer none, .int .i64 44]) ∧ w' = w)
      go_enter Try.func26, Try.ntmps26
      go_wp2_with fail
      refine HF.out.mono ?_
      rintro e w1 ⟨rfl, h9⟩
      obtain rfl : w = w1 := h9.symm
      clear h9
      go_wp2_with fail
      refine HO.out.mono ?_
      rintro e w1 ⟨rfl, h9⟩
      obtain rfl : w = w1 := h9.symm
      clear h9
      go_wp2_with fail
      go_ret2
      exact ⟨rfl, rfl⟩
    | false =>
      rw [hs] at HO
      show Calls _ _ _ _ (fun e w' => e = .returned (.tuple #[.pointer (some ⟨y.k, 0, none⟩), .int .i64 0]) ∧ w' = w)
      go_enter Try.func26, Try.ntmps26
      go_wp2_with fail
      refine HF.out.mono ?_
      rintro e w1 ⟨rfl, h9⟩
      obtain rfl : w = w1 := h9.symm
      clear h9
      go_wp2_with fail
      refine HO.out.mono ?_
      rintro e w1 ⟨rfl, h9⟩
      obtain rfl : w = w1 := h9.symm
      clear h9
      go_wp2_with fail
      go_ret2
      exact ⟨rfl, rfl⟩
end Go.Proofs.Ytedlpefglgleeab
