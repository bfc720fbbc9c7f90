/- The document's flow: in memory; May, Queued, Boxed, Toward, Put: walks. -/
import Derived.Test.YtlgbciibhmcokaaXSS
import Derived.Test.YtlgbciibhmcokaaXRoutes
namespace Go.Proofs.Ytlgbciibhmcokaa
open Go.RowKit

/-- Where the document's flow lies. -/
structure RX where
  R : Nat
  Q : Nat
  X : Nat
  N : Nat
  qv : List Value
  xv : List Value
def RX.ow (g : RX) (k : Nat) : Prop := k = g.R ∨ k = g.Q ∨ k = g.X ∨ k = g.N ∨ (∃ i, i < g.qv.length ∧ (g.qv.getD i nil3).ownBlock = some k) ∨ (∃ j, j < g.xv.length ∧ (g.xv.getD j nil3).ownBlock = some k)
def nv (l : List Nat) : List Value := l.map (fun n : Nat => Value.int .i64 (n : Int))
structure RF (lo : Nat) (W : World) (g : RX) (box : Nat) (s : Ps) : Prop where
  cell : W.heap[g.R]? = some (.cells #[.int .i64 (box : Int), .slice (some ⟨g.Q, 0, none⟩) s.q.length s.q.length, .slice (some ⟨g.X, 0, none⟩) s.b.length s.b.length, .slice (some ⟨g.N, 0, none⟩) s.q.length s.q.length] 71 (0, 0))
  q : SS elI 33 45 4 lo W g.Q g.qv s.q
  b : SS elM 94 93 5 lo W g.X g.xv s.b
  n : W.heap[g.N]? = some (.cells (nv s.n).toArray 3 (0, 0))
theorem RF.step {lo : Nat} {W W' : World} {S : Nat → Prop} {g : RX} {box : Nat} {s : Ps} (h : RF lo W g box s) (hf : Fr W W' S) (hS : ∀ k, g.ow k → ¬ S k) : RF lo W' g box s :=
  ⟨keep_block h.cell hf (hS _ (Or.inl rfl)), h.q.fr hf (hS _ (Or.inr (Or.inl rfl))) (fun i k hi hk => hS k (Or.inr (Or.inr (Or.inr (Or.inr (Or.inl ⟨i, hi, hk⟩)))))),
   h.b.fr hf (hS _ (Or.inr (Or.inr (Or.inl rfl)))) (fun i k hi hk => hS k (Or.inr (Or.inr (Or.inr (Or.inr (Or.inr ⟨i, hi, hk⟩)))))), keep_block h.n hf (hS _ (Or.inr (Or.inr (Or.inr (Or.inl rfl)))))⟩
theorem RF.still {lo : Nat} {W W' : World} {g : RX} {box : Nat} {s : Ps} (h : RF lo W g box s) (hf : Fr W W' (fun _ => False)) : RF lo W' g box s := h.step hf (fun _ _ h => h)
theorem RF.lt {lo : Nat} {W : World} {g : RX} {box : Nat} {s : Ps} (h : RF lo W g box s) {k : Nat} (hk : g.ow k) : k < W.heap.size := by
  rcases hk with rfl | rfl | rfl | rfl | ⟨i, hi, hk⟩ | ⟨j, hj, hk⟩
  · exact lt_of_block h.cell
  · exact lt_of_block h.q.row
  · exact lt_of_block h.b.row
  · exact lt_of_block h.n
  · exact own_lt (h.q.own i hi) hk
  · exact own_lt (h.b.own j hj) hk
theorem RF.cells {lo : Nat} {W : World} {g : RX} {box : Nat} {s : Ps} (h : RF lo W g box s) : W.cell? ⟨g.R, 0, none⟩ = some (.int .i64 (box : Int)) ∧ W.cell? ⟨g.R, 1, none⟩ = some (.slice (some ⟨g.Q, 0, none⟩) s.q.length s.q.length) ∧ W.cell? ⟨g.R, 2, none⟩ = some (.slice (some ⟨g.X, 0, none⟩) s.b.length s.b.length) ∧ W.cell? ⟨g.R, 3, none⟩ = some (.slice (some ⟨g.N, 0, none⟩) s.q.length s.q.length) ∧ g.R < W.heap.size := by
  refine ⟨?_, ?_, ?_, ?_, lt_of_block h.cell⟩ <;> simp [World.cell?, h.cell]
theorem RF.nat {lo : Nat} {W : World} {g : RX} {box : Nat} {s : Ps} (h : RF lo W g box s) {i : Nat} (hi : i < s.n.length) : W.cell? ⟨g.N, i, none⟩ = some (.int .i64 ((s.n.getD i 0 : Nat) : Int)) ∧ g.N < W.heap.size := by
  refine ⟨?_, lt_of_block h.n⟩
  rw [cell_of_row W g.N _ _ _ (0, 0) h.n]
  simp [nv, List.getD, hi]
/-- What a call leaves of the document's flow. -/
def RA (lo : Nat) (W w' : World) (g : RX) (box : Nat) (s : Ps) : Prop := ∃ g', g'.R = g.R ∧ RF lo w' g' box s ∧ Gr W g.ow g'.ow ∧ Fr W w' g.ow
theorem RA.same {lo : Nat} {W w' : World} {g : RX} {box : Nat} {s : Ps} (h : RF lo W g box s) (hf : Fr W w' (fun _ => False)) : RA lo W w' g box s := ⟨g, rfl, h.still hf, Gr.refl _ _, hf.mono (fun _ _ h => h.elim)⟩
theorem RA.pre {lo : Nat} {W W1 w' : World} {g : RX} {box : Nat} {s : Ps} (hf : Fr W W1 (fun _ => False)) (h : RA lo W1 w' g box s) : RA lo W w' g box s := by
  obtain ⟨g', h1, h2, h4, h5⟩ := h
  have hs := hf.size
  exact ⟨g', h1, h2, fun k hk => (h4 k hk).imp id (fun h => by omega), (hf.mono (fun _ _ h => h.elim)).trans h5⟩
theorem RA.post {lo : Nat} {W W1 w' : World} {g : RX} {box : Nat} {s : Ps} (h : RA lo W W1 g box s) (hf : Fr W1 w' (fun _ => False)) : RA lo W w' g box s := by
  obtain ⟨g', h1, h2, h4, h5⟩ := h
  exact ⟨g', h1, h2.still hf, h4, h5.trans (hf.mono (fun _ _ h => h.elim))⟩
theorem RA.grow {lo : Nat} {w w1 w2 : World} {g g' : RX} {box : Nat} {s : Ps} (hR : g'.R = g.R) (hg : Gr w g.ow g'.ow) (hf : Fr w w1 g.ow) (h : RA lo w1 w2 g' box s) : RA lo w w2 g box s := by
  obtain ⟨g2, h1, h2, h4, h5⟩ := h
  have hs := hf.size
  refine ⟨g2, h1.trans hR, h2, fun k hk => ?_, hf.trans2 h5 (fun k hk e => ?_)⟩
  · rcases h4 k hk with h | h
    · exact hg k h
    · exact Or.inr (by omega)
  · rcases hg k e with h | h
    · exact h
    · omega
/-- A queue is put in another's place. -/
theorem RF.setQ {lo : Nat} {W W1 : World} {g : RX} {box : Nat} {s : Ps} (h : RF lo W g box s) {i : Nat} (hi : i < s.q.length) (hf : Fr W W1 (fun k => (g.qv.getD i nil3).ownBlock = some k)) {v' : Value} {L' : List It} (ho : W1.ownsRow lo 33 4 v' L'.length (fl elI L')) (hn : Nw W (g.qv.getD i nil3) v') :
    (∃ u, W1.cell? ⟨g.Q, i, none⟩ = some u) ∧ W1.frozen? ⟨g.Q, i, none⟩ = false ∧ g.Q < W1.heap.size ∧ RA lo W (W1.setCell ⟨g.Q, i, none⟩ v') g box ⟨s.q.set i L', s.n, s.b⟩ := by
  have hl : i < g.qv.length := by rw [h.q.len]; exact hi
  obtain ⟨k1, k2, k3, k4, k5⟩ := h.q.set kdI.ne hl hf ho hn
  refine ⟨k1, k2, k3, ⟨g.R, g.Q, g.X, g.N, g.qv.set i v', g.xv⟩, rfl, ⟨?_, k4, ?_, ?_⟩, ?_, k5.mono ?_⟩
  · show _ = some (Obj.cells #[_, .slice _ (s.q.set i L').length (s.q.set i L').length, _, .slice _ (s.q.set i L').length (s.q.set i L').length] _ _)
    rw [List.length_set]
    refine keep_block h.cell k5 (fun e => ?_)
    rcases e with e | e
    · exact block_ne h.cell h.q.row (by decide) e
    · exact own_ne (h.q.own i hl) h.cell (by decide) e
  · refine h.b.fr k5 (fun e => ?_) (fun j k hj hk e => ?_)
    · rcases e with e | e
      · exact block_ne h.b.row h.q.row (by decide) e
      · exact own_ne (h.q.own i hl) h.b.row (by decide) e
    · rcases e with e | e
      · subst e; exact own_ne (h.b.own j hj) h.q.row (by decide) hk
      · rcases (h.q.own i hl).2 with ⟨e1, _⟩ | ⟨a, cap, cur, e1, _, hg, _⟩
        · rw [e1] at e; simp [Value.ownBlock] at e
        · rw [e1] at e; simp [Value.ownBlock] at e; subst e; exact own_ne (h.b.own j hj) hg (by decide) hk
  · refine keep_block h.n k5 (fun e => ?_)
    rcases e with e | e
    · exact block_ne h.n h.q.row (by decide) e
    · exact own_ne (h.q.own i hl) h.n (by decide) e
  · rintro k (e | e | e | e | ⟨j, hj, hk⟩ | e)
    · exact Or.inl (Or.inl e)
    · exact Or.inl (Or.inr (Or.inl e))
    · exact Or.inl (Or.inr (Or.inr (Or.inl e)))
    · exact Or.inl (Or.inr (Or.inr (Or.inr (Or.inl e))))
    · change j < (g.qv.set i v').length at hj
      change ((g.qv.set i v').getD j nil3).ownBlock = some k at hk
      rw [List.length_set] at hj
      rw [getD_set_if hl] at hk
      split at hk
      · rcases hn k hk with h3 | h3
        · exact Or.inl (Or.inr (Or.inr (Or.inr (Or.inr (Or.inl ⟨i, hl, h3⟩)))))
        · exact Or.inr h3
      · exact Or.inl (Or.inr (Or.inr (Or.inr (Or.inr (Or.inl ⟨j, hj, hk⟩)))))
    · exact Or.inl (Or.inr (Or.inr (Or.inr (Or.inr (Or.inr e)))))
  · rintro k _ (e | e)
    · exact Or.inr (Or.inl e)
    · exact Or.inr (Or.inr (Or.inr (Or.inr (Or.inl ⟨i, hl, e⟩))))
/-- A box is put in another's place. -/
theorem RF.setX {lo : Nat} {W W1 : World} {g : RX} {box : Nat} {s : Ps} (h : RF lo W g box s) {i : Nat} (hi : i < s.b.length) (hf : Fr W W1 (fun k => (g.xv.getD i nil3).ownBlock = some k)) {v' : Value} {L' : List Ms} (ho : W1.ownsRow lo 94 5 v' L'.length (fl elM L')) (hn : Nw W (g.xv.getD i nil3) v') :
    (∃ u, W1.cell? ⟨g.X, i, none⟩ = some u) ∧ W1.frozen? ⟨g.X, i, none⟩ = false ∧ g.X < W1.heap.size ∧ RA lo W (W1.setCell ⟨g.X, i, none⟩ v') g box ⟨s.q, s.n, s.b.set i L'⟩ := by
  have hl : i < g.xv.length := by rw [h.b.len]; exact hi
  obtain ⟨k1, k2, k3, k4, k5⟩ := h.b.set kdM.ne hl hf ho hn
  refine ⟨k1, k2, k3, ⟨g.R, g.Q, g.X, g.N, g.qv, g.xv.set i v'⟩, rfl, ⟨?_, ?_, k4, ?_⟩, ?_, k5.mono ?_⟩
  · show _ = some (Obj.cells #[_, _, .slice _ (s.b.set i L').length (s.b.set i L').length, _] _ _)
    rw [List.length_set]
    refine keep_block h.cell k5 (fun e => ?_)
    rcases e with e | e
    · exact block_ne h.cell h.b.row (by decide) e
    · exact own_ne (h.b.own i hl) h.cell (by decide) e
  · refine h.q.fr k5 (fun e => ?_) (fun j k hj hk e => ?_)
    · rcases e with e | e
      · exact block_ne h.q.row h.b.row (by decide) e
      · exact own_ne (h.b.own i hl) h.q.row (by decide) e
    · rcases e with e | e
      · subst e; exact own_ne (h.q.own j hj) h.b.row (by decide) hk
      · rcases (h.b.own i hl).2 with ⟨e1, _⟩ | ⟨a, cap, cur, e1, _, hg, _⟩
        · rw [e1] at e; simp [Value.ownBlock] at e
        · rw [e1] at e; simp [Value.ownBlock] at e; subst e; exact own_ne (h.q.own j hj) hg (by decide) hk
  · refine keep_block h.n k5 (fun e => ?_)
    rcases e with e | e
    · exact block_ne h.n h.b.row (by decide) e
    · exact own_ne (h.b.own i hl) h.n (by decide) e
  · rintro k (e | e | e | e | e | ⟨j, hj, hk⟩)
    · exact Or.inl (Or.inl e)
    · exact Or.inl (Or.inr (Or.inl e))
    · exact Or.inl (Or.inr (Or.inr (Or.inl e)))
    · exact Or.inl (Or.inr (Or.inr (Or.inr (Or.inl e))))
    · exact Or.inl (Or.inr (Or.inr (Or.inr (Or.inr (Or.inl e)))))
    · change j < (g.xv.set i v').length at hj
      change ((g.xv.set i v').getD j nil3).ownBlock = some k at hk
      rw [List.length_set] at hj
      rw [getD_set_if hl] at hk
      split at hk
      · rcases hn k hk with h3 | h3
        · exact Or.inl (Or.inr (Or.inr (Or.inr (Or.inr (Or.inr ⟨i, hl, h3⟩)))))
        · exact Or.inr h3
      · exact Or.inl (Or.inr (Or.inr (Or.inr (Or.inr (Or.inr ⟨j, hj, hk⟩)))))
  · rintro k _ (e | e)
    · exact Or.inr (Or.inr (Or.inl e))
    · exact Or.inr (Or.inr (Or.inr (Or.inr (Or.inr ⟨i, hl, e⟩))))
/-- A number is set. -/
theorem RF.setN {lo : Nat} {W : World} {g : RX} {box : Nat} {s : Ps} (h : RF lo W g box s) (i m : Nat) : RA lo W (W.setCell ⟨g.N, i, none⟩ (.int .i64 (m : Int))) g box ⟨s.q, s.n.set i m, s.b⟩ := by
  have hf := set_fr W g.N i (.int .i64 (m : Int))
  refine ⟨g, rfl, ⟨keep_block h.cell hf (fun e => block_ne h.cell h.n (by decide) e), h.q.fr hf (fun e => block_ne h.q.row h.n (by decide) e) (fun j k hj hk e => by subst e; exact own_ne (h.q.own j hj) h.n (by decide) hk), h.b.fr hf (fun e => block_ne h.b.row h.n (by decide) e) (fun j k hj hk e => by subst e; exact own_ne (h.b.own j hj) h.n (by decide) hk), ?_⟩, Gr.refl _ _, hf.mono (fun k _ e => Or.inr (Or.inr (Or.inr (Or.inl e))))⟩
  rw [heap_setCell_same W g.N i _ _ _ h.n]
  simp [nv, List.map_set]
set_option maxHeartbeats 1000000 in
theorem rqueued_any {lo : Nat} {w : World} {g : RX} {box : Nat} {s : Ps} (h : RF lo w g box s) (i : Int) : Calls Try.prog 29 #[.pointer (some ⟨g.R, 0, none⟩), .int .i64 i] w fun e w' => e = .returned (.int .i64 (lenAt i s.q : Int)) ∧ w' = w := by
  obtain ⟨c0, c1, c2, c3, hlt⟩ := h.cells
  by_cases hi : 0 ≤ i ∧ i < (s.q.length : Int)
  · obtain ⟨n, rfl⟩ : ∃ n : Nat, i = (n : Int) := ⟨i.toNat, by omega⟩
    have hn : n < s.q.length := by omega
    rw [lenAt_nat hn]
    obtain ⟨ao, cap, _, d0⟩ := h.q.cell (by rw [h.q.len]; exact hn)
    have hql := lt_of_block h.q.row
    have t1 : ¬ (n : Int) < 0 := by omega
    have t2 : ¬ (s.q.length : Int) ≤ (n : Int) := by omega
    have t3 : (n : Int) < (s.q.length : Int) := by omega
    clear h hi hn c0 c2 c3
    generalize (s.q.getD n []).length = l at *
    generalize s.q.length = m at *
    go_enter Try.func29, Try.ntmps29
    go_wp2_with fail
    go_ret
    exact ⟨rfl, rfl⟩
  · have e1 : lenAt i s.q = 0 := by unfold lenAt; rw [if_neg hi]
    rw [e1]
    have hc : i < 0 ∨ (¬ i < 0 ∧ (s.q.length : Int) ≤ i) := by omega
    clear h hi c0 c2 c3 e1
    generalize s.q.length = m at *
    rcases hc with t1 | ⟨t1, t2⟩
    all_goals
      go_enter Try.func29, Try.ntmps29
      go_wp2_with fail
      go_ret
      exact ⟨rfl, rfl⟩
set_option maxHeartbeats 1000000 in
theorem rboxed_any {lo : Nat} {w : World} {g : RX} {box : Nat} {s : Ps} (h : RF lo w g box s) (i : Int) : Calls Try.prog 30 #[.pointer (some ⟨g.R, 0, none⟩), .int .i64 i] w fun e w' => e = .returned (.int .i64 (lenAt i s.b : Int)) ∧ w' = w := by
  obtain ⟨c0, c1, c2, c3, hlt⟩ := h.cells
  by_cases hi : 0 ≤ i ∧ i < (s.b.length : Int)
  · obtain ⟨n, rfl⟩ : ∃ n : Nat, i = (n : Int) := ⟨i.toNat, by omega⟩
    have hn : n < s.b.length := by omega
    rw [lenAt_nat hn]
    obtain ⟨ao, cap, _, d0⟩ := h.b.cell (by rw [h.b.len]; exact hn)
    have hql := lt_of_block h.b.row
    have t1 : ¬ (n : Int) < 0 := by omega
    have t2 : ¬ (s.b.length : Int) ≤ (n : Int) := by omega
    have t3 : (n : Int) < (s.b.length : Int) := by omega
    clear h hi hn c0 c1 c3
    generalize (s.b.getD n []).length = l at *
    generalize s.b.length = m at *
    go_enter Try.func30, Try.ntmps30
    go_wp2_with fail
    go_ret
    exact ⟨rfl, rfl⟩
  · have e1 : lenAt i s.b = 0 := by unfold lenAt; rw [if_neg hi]
    rw [e1]
    have hc : i < 0 ∨ (¬ i < 0 ∧ (s.b.length : Int) ≤ i) := by omega
    clear h hi c0 c1 c3 e1
    generalize s.b.length = m at *
    rcases hc with t1 | ⟨t1, t2⟩
    all_goals
      go_enter Try.func30, Try.ntmps30
      go_wp2_with fail
      go_ret
      exact ⟨rfl, rfl⟩
theorem riskey_any (k : ByteArray) (w : World) : Calls Try.prog 48 #[.string k] w fun e w' => e = .returned (.bool (keyB k)) ∧ w' = w := by
  by_cases h1 : 1 ≤ k.size
  · by_cases h2 : k.size ≤ 32
    · have hk : keyB k = true := decide_eq_true ⟨h1, h2⟩
      rw [hk]
      have t1 : (1 : Int) ≤ (k.size : Int) := by omega
      have t2 : (k.size : Int) ≤ 32 := by omega
      go_enter Try.func48, Try.ntmps48
      go_wp2_with fail
      go_ret
      exact ⟨rfl, rfl⟩
    · have hk : keyB k = false := decide_eq_false (fun h => h2 h.2)
      rw [hk]
      have t1 : (1 : Int) ≤ (k.size : Int) := by omega
      have t2 : ¬ (k.size : Int) ≤ 32 := by omega
      go_enter Try.func48, Try.ntmps48
      go_wp2_with fail
      go_ret
      exact ⟨rfl, rfl⟩
  · have hk : keyB k = false := decide_eq_false (fun h => h1 h.1)
    rw [hk]
    have t1 : ¬ (1 : Int) ≤ (k.size : Int) := by omega
    go_enter Try.func48, Try.ntmps48
    go_wp2_with fail
    go_ret
    exact ⟨rfl, rfl⟩
theorem ristime_any (t : Int) (w : World) : Calls Try.prog 49 #[.int .i64 t] w fun e w' => e = .returned (.bool (decide (-1152921504606846976 ≤ t ∧ t ≤ 1152921504606846976))) ∧ w' = w := by
  by_cases h1 : -1152921504606846976 ≤ t
  · by_cases h2 : t ≤ 1152921504606846976
    · rw [decide_eq_true ⟨h1, h2⟩]
      go_enter Try.func49, Try.ntmps49
      go_wp2_with fail
      go_ret
      exact ⟨rfl, rfl⟩
    · rw [decide_eq_false (fun h => h2 h.2)]
      go_enter Try.func49, Try.ntmps49
      go_wp2_with fail
      go_ret
      exact ⟨rfl, rfl⟩
  · rw [decide_eq_false (fun h => h1 h.1)]
    go_enter Try.func49, Try.ntmps49
    go_wp2_with fail
    go_ret
    exact ⟨rfl, rfl⟩
set_option maxHeartbeats 2000000 in
theorem rmay_any (x : It) (w : World) : Calls Try.prog 42 #[vI x] w fun e w' => e = .returned (.int .i64 (errC x)) ∧ Fr w w' (fun _ => False) := by
  obtain ⟨m, k, t, v⟩ := x
  have HFR := hid (riskey_any k)
  have HTI := hid (ristime_any t)
  unfold vI
  simp only
  by_cases h1 : m = false ∧ keyB k = false
  · have e : errC ⟨m, k, t, v⟩ = 21 := by unfold errC; rw [if_pos h1]
    rw [e]
    obtain ⟨rfl, hk⟩ := h1
    rw [hk] at HFR
    clear e
    go_enter Try.func42, Try.ntmps42
    go_wp2_with fail
    refine (HFR.out _).mono ?_
    rintro e w1 ⟨rfl, rfl⟩
    go_wp2_with fail
    go_ret
    exact ⟨rfl, (Fr.refl _ _).alloc _⟩
  · have h1' : m = true ∨ (m = false ∧ keyB k = true) := by cases m <;> cases hq : keyB k <;> simp_all
    by_cases h2 : -1152921504606846976 ≤ t ∧ t ≤ 1152921504606846976
    · rw [decide_eq_true h2] at HTI
      rcases h1' with rfl | ⟨rfl, hk⟩
      · by_cases h3 : k.size ≠ 0 ∨ v ≠ 0
        · have e : errC ⟨true, k, t, v⟩ = 16 := by unfold errC; rw [if_neg h1, if_neg (fun h => h h2), if_pos ⟨rfl, h3⟩]
          rw [e]
          clear e h1 h2 HFR
          by_cases h4 : k.size = 0
          · have h5 : v ≠ 0 := by omega
            obtain rfl := size_zero h4
            have q2 : (v != 0) = true := by simpa using h5
            go_enter Try.func42, Try.ntmps42
            go_wp2_with fail
            refine (HTI.out _).mono ?_
            rintro e w1 ⟨rfl, rfl⟩
            go_wp2_with fail
            go_ret
            exact ⟨rfl, (Fr.refl _ _).alloc _⟩
          · have q1 : k.toList.isEmpty = false := by
              have h7 := key_nz h4
              rw [beq_eq_false_iff_ne] at h7
              cases hq : k.toList with
              | nil => exact absurd (by rw [hq, ByteArray.toList_eq]) h7
              | cons a l => rfl
            have q2 : ¬ k.toList = [] := by intro e; rw [e] at q1; cases q1
            go_enter Try.func42, Try.ntmps42
            go_wp2_with fail
            refine (HTI.out _).mono ?_
            rintro e w1 ⟨rfl, rfl⟩
            go_wp2_with fail
            go_ret
            exact ⟨rfl, (Fr.refl _ _).alloc _⟩
        · have e : errC ⟨true, k, t, v⟩ = 0 := by unfold errC; rw [if_neg h1, if_neg (fun h => h h2), if_neg (fun h => h3 h.2)]
          rw [e]
          have h4 : k.size = 0 := by omega
          have h5 : v = 0 := by omega
          obtain rfl := size_zero h4
          subst h5
          clear e h1 h2 h3 h4 HFR
          go_enter Try.func42, Try.ntmps42
          go_wp2_with fail
          refine (HTI.out _).mono ?_
          rintro e w1 ⟨rfl, rfl⟩
          go_wp2_with fail
          go_ret
          exact ⟨rfl, (Fr.refl _ _).alloc _⟩
      · have e : errC ⟨false, k, t, v⟩ = 0 := by unfold errC; rw [if_neg h1, if_neg (fun h => h h2), if_neg (fun h => by cases h.1)]
        rw [e]
        rw [hk] at HFR
        clear e h1 h2
        go_enter Try.func42, Try.ntmps42
        go_wp2_with fail
        refine (HFR.out _).mono ?_
        rintro e w1 ⟨rfl, rfl⟩
        go_wp2_with fail
        refine (HTI.out _).mono ?_
        rintro e w1 ⟨rfl, rfl⟩
        go_wp2_with fail
        go_ret
        exact ⟨rfl, (Fr.refl _ _).alloc _⟩
    · have e : errC ⟨m, k, t, v⟩ = 22 := by unfold errC; rw [if_neg h1, if_pos h2]
      rw [e]
      rw [decide_eq_false h2] at HTI
      clear e h1 h2
      rcases h1' with rfl | ⟨rfl, hk⟩
      · go_enter Try.func42, Try.ntmps42
        go_wp2_with fail
        refine (HTI.out _).mono ?_
        rintro e w1 ⟨rfl, rfl⟩
        go_wp2_with fail
        go_ret
        exact ⟨rfl, (Fr.refl _ _).alloc _⟩
      · rw [hk] at HFR
        go_enter Try.func42, Try.ntmps42
        go_wp2_with fail
        refine (HFR.out _).mono ?_
        rintro e w1 ⟨rfl, rfl⟩
        go_wp2_with fail
        refine (HTI.out _).mono ?_
        rintro e w1 ⟨rfl, rfl⟩
        go_wp2_with fail
        go_ret
        exact ⟨rfl, (Fr.refl _ _).alloc _⟩
end Go.Proofs.Ytlgbciibhmcokaa
