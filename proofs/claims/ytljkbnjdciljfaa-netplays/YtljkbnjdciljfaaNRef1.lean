/- net: the document's net in memory; is, part, join: walks. -/
import Derived.Test.YtljkbnjdciljfaaNManyB
import Derived.Deep.RegionHeld3
import Derived.Deep.DeepMust
namespace Go.Proofs.Ytljkbnjdciljfaa
open Go.RowKit

/-- The connections' row: seven cells a connection. -/
def LB (W : World) (L : Nat) (cv : Nat → Nat → Value) : Prop := ∃ cs : Array Value, W.heap[L]? = some (.cells cs 99 (0, 0)) ∧ ∀ i j, i < 65 → j < 7 → cs[i * 7 + j]? = some (cv i j)
theorem LB.cell {W : World} {L : Nat} {cv : Nat → Nat → Value} (h : LB W L cv) {i j : Nat} (hi : i < 65) (hj : j < 7) : W.cell? ⟨L, i * 7 + j, none⟩ = some (cv i j) := by
  obtain ⟨cs, h1, h2⟩ := h
  rw [cell_of_row W L _ _ _ (0, 0) h1]
  exact h2 i j hi hj
theorem LB.free {W : World} {L : Nat} {cv : Nat → Nat → Value} (h : LB W L cv) (o : Nat) : W.frozen? ⟨L, o, none⟩ = false := by
  obtain ⟨cs, h1, _⟩ := h
  exact free_of h1 o
theorem LB.lt {W : World} {L : Nat} {cv : Nat → Nat → Value} (h : LB W L cv) : L < W.heap.size := by
  obtain ⟨cs, h1, _⟩ := h
  exact lt_of_block h1
theorem LB.fr {W W' : World} {S : Nat → Prop} {L : Nat} {cv : Nat → Nat → Value} (h : LB W L cv) (hf : Fr W W' S) (hS : ¬ S L) : LB W' L cv := by
  obtain ⟨cs, h1, h2⟩ := h
  exact ⟨cs, keep_block h1 hf hS, h2⟩
def cvSet (cv : Nat → Nat → Value) (i j : Nat) (u : Value) : Nat → Nat → Value := fun a b => if a = i ∧ b = j then u else cv a b
theorem LB.set {W : World} {L : Nat} {cv : Nat → Nat → Value} (h : LB W L cv) (i j : Nat) (hi : i < 65) (hj : j < 7) (u : Value) : LB (W.setCell ⟨L, i * 7 + j, none⟩ u) L (cvSet cv i j u) := by
  obtain ⟨cs, h1, h2⟩ := h
  refine ⟨_, heap_setCell_same W L _ _ _ u h1, fun a b ha hb => ?_⟩
  have hlt : i * 7 + j < cs.size := by
    rcases Nat.lt_or_ge (i * 7 + j) cs.size with h | h
    · exact h
    · have := h2 i j hi hj
      rw [Array.getElem?_eq_none h] at this
      cases this
  unfold cvSet
  rw [Array.getElem?_setIfInBounds]
  by_cases e : i * 7 + j = a * 7 + b
  · have e1 : a = i := by omega
    have e2 : b = j := by omega
    rw [if_pos e, if_pos hlt, if_pos ⟨e1, e2⟩]
  · rw [if_neg e, if_neg (fun ⟨e1, e2⟩ => e (by rw [e1, e2]))]
    exact h2 a b ha hb
/-- Where the document's net lies. -/
structure Rx where
  G : Nat
  L : Nat
  cv : Nat → Nat → Value
def Rx.ow (g : Rx) (k : Nat) : Prop := k = g.G ∨ k = g.L ∨ ∃ i j, i < 65 ∧ 3 ≤ j ∧ j < 7 ∧ (g.cv i j).ownBlock = some k
def lst (x : Cp) (j : Nat) : List Nat := if j = 3 then x.w else if j = 4 then x.i else if j = 5 then x.o else x.h
def cOf (s : Np) (i : Nat) : Cp := (s.c i).getD cp0
def netC (s : Np) (L : Nat) : Array Value := #[.int .i64 (s.a : Int), .int .i64 (s.b : Int), .slice (some ⟨L, 0, none⟩) 65 65, .int .i64 (s.m : Int)]
structure RN (W : World) (lo : Nat) (g : Rx) (s : Np) : Prop where
  net : W.heap[g.G]? = some (.cells (netC s g.L) 73 (0, 0))
  row : LB W g.L g.cv
  th : ∀ i, i < 65 → g.cv i 0 = .bool (s.c i).isSome
  cl : ∀ i, i < 65 → g.cv i 1 = .bool (cOf s i).cl
  ct : ∀ i, i < 65 → g.cv i 2 = .bool (cOf s i).ct
  ls : ∀ i j, i < 65 → 3 ≤ j → j < 7 → Rw W lo 5 (g.cv i j) (lst (cOf s i) j)
  wf : Wf s
  lo : lo ≤ g.G ∧ lo ≤ g.L ∧ lo ≤ W.heap.size
theorem RN.ne {W : World} {lo : Nat} {g : Rx} {s : Np} (h : RN W lo g s) {i j : Nat} (hi : i < 65) (h3 : 3 ≤ j) (h7 : j < 7) : (g.cv i j).ownBlock ≠ some g.G ∧ (g.cv i j).ownBlock ≠ some g.L := by
  obtain ⟨cs, h1, _⟩ := h.row
  exact ⟨(h.ls i j hi h3 h7).ne h.net (by decide), (h.ls i j hi h3 h7).ne h1 (by decide)⟩
theorem RN.gl {W : World} {lo : Nat} {g : Rx} {s : Np} (h : RN W lo g s) : g.G ≠ g.L := by
  obtain ⟨cs, h1, _⟩ := h.row
  intro e
  have h2 := h.net
  rw [e, h1] at h2
  simp at h2
theorem RN.lt {W : World} {lo : Nat} {g : Rx} {s : Np} (h : RN W lo g s) {k : Nat} (hk : g.ow k) : lo ≤ k ∧ k < W.heap.size := by
  rcases hk with rfl | rfl | ⟨i, j, hi, h3, h7, hk⟩
  · exact ⟨h.lo.1, lt_of_block h.net⟩
  · exact ⟨h.lo.2.1, h.row.lt⟩
  · exact (h.ls i j hi h3 h7).lt hk
theorem RN.fr {W W' : World} {S : Nat → Prop} {lo : Nat} {g : Rx} {s : Np} (h : RN W lo g s) (hf : Fr W W' S) (hS : ∀ k, g.ow k → ¬ S k) : RN W' lo g s :=
  ⟨keep_block h.net hf (hS _ (Or.inl rfl)), h.row.fr hf (hS _ (Or.inr (Or.inl rfl))), h.th, h.cl, h.ct, fun i j hi h3 h7 => (h.ls i j hi h3 h7).fr hf (fun k hk => hS k (Or.inr (Or.inr ⟨i, j, hi, h3, h7, hk⟩))), h.wf, h.lo.1, h.lo.2.1, Nat.le_trans h.lo.2.2 hf.size⟩
theorem RN.still {W W' : World} {lo : Nat} {g : Rx} {s : Np} (h : RN W lo g s) (hf : Fr W W' (fun _ => False)) : RN W' lo g s := h.fr hf (fun _ _ h => h)
/-- What a call leaves. -/
def RNA (W W' : World) (lo : Nat) (g : Rx) (s' : Np) : Prop := ∃ g' : Rx, g'.G = g.G ∧ RN W' lo g' s' ∧ (∀ k, g'.ow k → g.ow k ∨ W.heap.size ≤ k) ∧ Fr W W' g.ow
theorem RN.keep {W W' : World} {lo : Nat} {g : Rx} {s : Np} (h : RN W lo g s) (hf : Fr W W' (fun _ => False)) : RNA W W' lo g s := ⟨g, rfl, h.still hf, fun _ hk => Or.inl hk, hf.mono (fun _ _ h => h.elim)⟩
theorem RN.upd {W W' : World} {lo : Nat} {g : Rx} {s s' : Np} (h : RN W lo g s) {c : Nat} (hc : c < 65) {y : Cp} {k : Nat} (he : s' = s.upd (c : Int) y k) (hwf : Wf s') {cv' : Nat → Nat → Value}
    (hf : Fr W W' (fun q => q = g.G ∨ q = g.L)) (hnet : W'.heap[g.G]? = some (.cells (netC s' g.L) 73 (0, 0))) (hrow : LB W' g.L cv') (hoth : ∀ i j, i ≠ c → cv' i j = g.cv i j) (h0 : cv' c 0 = .bool true) (h1 : cv' c 1 = .bool y.cl) (h2 : cv' c 2 = .bool y.ct)
    (hls : ∀ j, 3 ≤ j → j < 7 → Rw W' lo 5 (cv' c j) (lst y j) ∧ ∀ q, (cv' c j).ownBlock = some q → (∃ j', 3 ≤ j' ∧ j' < 7 ∧ (g.cv c j').ownBlock = some q) ∨ W.heap.size ≤ q) : RNA W W' lo g s' := by
  have hcc : ∀ i, s'.c i = if i = c then some y else s.c i := fun i => by rw [he]; show (if i = (c : Int).toNat then some y else s.c i) = _; rw [Int.toNat_natCast]
  refine ⟨{ g with cv := cv' }, rfl, ⟨hnet, hrow, fun i hi => ?_, fun i hi => ?_, fun i hi => ?_, fun i j hi h3 h7 => ?_, hwf, h.lo.1, h.lo.2.1, Nat.le_trans h.lo.2.2 hf.size⟩, fun q hq => ?_, hf.mono (fun q _ hq => ?_)⟩
  · show cv' i 0 = _
    rw [hcc]
    by_cases e : i = c
    · subst e; rw [h0]; simp
    · rw [hoth i 0 e, h.th i hi, if_neg e]
  · show cv' i 1 = _
    unfold cOf
    rw [hcc]
    by_cases e : i = c
    · subst e; rw [h1]; simp
    · rw [hoth i 1 e, h.cl i hi, if_neg e]; rfl
  · show cv' i 2 = _
    unfold cOf
    rw [hcc]
    by_cases e : i = c
    · subst e; rw [h2]; simp
    · rw [hoth i 2 e, h.ct i hi, if_neg e]; rfl
  · show Rw W' lo _ (cv' i j) _
    unfold cOf
    rw [hcc]
    by_cases e : i = c
    · subst e; rw [if_pos rfl]; exact (hls j h3 h7).1
    · rw [hoth i j e, if_neg e]
      exact (h.ls i j hi h3 h7).fr hf (fun q hq hs => by
        obtain ⟨n1, n2⟩ := h.ne hi h3 h7
        rcases hs with rfl | rfl
        · exact n1 hq
        · exact n2 hq)
  · rcases hq with rfl | rfl | ⟨i, j, hi, h3, h7, hq⟩
    · exact Or.inl (Or.inl rfl)
    · exact Or.inl (Or.inr (Or.inl rfl))
    · change (cv' i j).ownBlock = some q at hq
      by_cases e : i = c
      · subst e
        rcases (hls j h3 h7).2 q hq with ⟨j', k1, k2, k3⟩ | h9
        · exact Or.inl (Or.inr (Or.inr ⟨i, j', hi, k1, k2, k3⟩))
        · exact Or.inr h9
      · rw [hoth i j e] at hq
        exact Or.inl (Or.inr (Or.inr ⟨i, j, hi, h3, h7, hq⟩))
  · rcases hq with rfl | rfl
    · exact Or.inl rfl
    · exact Or.inr (Or.inl rfl)
/-- The cells that a call reads. -/
theorem RN.cells {W : World} {lo : Nat} {g : Rx} {s : Np} (h : RN W lo g s) : W.cell? ⟨g.G, 0, none⟩ = some (.int .i64 (s.a : Int)) ∧ W.cell? ⟨g.G, 1, none⟩ = some (.int .i64 (s.b : Int)) ∧ W.cell? ⟨g.G, 2, none⟩ = some (.slice (some ⟨g.L, 0, none⟩) 65 65) ∧ W.cell? ⟨g.G, 3, none⟩ = some (.int .i64 (s.m : Int)) ∧ (∀ o, W.frozen? ⟨g.G, o, none⟩ = false) ∧ g.G < W.heap.size := by
  refine ⟨?_, ?_, ?_, ?_, fun o => free_of h.net o, lt_of_block h.net⟩ <;> (rw [cell_of_row W g.G _ _ _ (0, 0) h.net]; rfl)
/-- A connection's cells. -/
structure Co (W : World) (lo : Nat) (g : Rx) (n : Nat) (th : Bool) (x : Cp) : Prop where
  c0 : W.cell? ⟨g.L, n * 7, none⟩ = some (.bool th)
  c1 : W.cell? ⟨g.L, n * 7 + 1, none⟩ = some (.bool x.cl)
  c2 : W.cell? ⟨g.L, n * 7 + 2, none⟩ = some (.bool x.ct)
  ls : ∃ a3 k3 a4 k4 a5 k5 a6 k6, W.cell? ⟨g.L, n * 7 + 3, none⟩ = some (.slice a3 x.w.length k3) ∧ W.cell? ⟨g.L, n * 7 + 4, none⟩ = some (.slice a4 x.i.length k4) ∧ W.cell? ⟨g.L, n * 7 + 5, none⟩ = some (.slice a5 x.o.length k5) ∧ W.cell? ⟨g.L, n * 7 + 6, none⟩ = some (.slice a6 x.h.length k6) ∧
    g.cv n 3 = .slice a3 x.w.length k3 ∧ g.cv n 4 = .slice a4 x.i.length k4 ∧ g.cv n 5 = .slice a5 x.o.length k5 ∧ g.cv n 6 = .slice a6 x.h.length k6 ∧
    Rw W lo 5 (.slice a3 x.w.length k3) x.w ∧ Rw W lo 5 (.slice a4 x.i.length k4) x.i ∧ Rw W lo 5 (.slice a5 x.o.length k5) x.o ∧ Rw W lo 5 (.slice a6 x.h.length k6) x.h
  fz : ∀ o, W.frozen? ⟨g.L, o, none⟩ = false
  lt : g.L < W.heap.size
theorem RN.co {W : World} {lo : Nat} {g : Rx} {s : Np} (h : RN W lo g s) {n : Nat} (hn : n < 65) : Co W lo g n (s.c n).isSome (cOf s n) := by
  have c0 := h.row.cell (i := n) (j := 0) hn (by omega)
  have c1 := h.row.cell (i := n) (j := 1) hn (by omega)
  have c2 := h.row.cell (i := n) (j := 2) hn (by omega)
  have c3 := h.row.cell (i := n) (j := 3) hn (by omega)
  have c4 := h.row.cell (i := n) (j := 4) hn (by omega)
  have c5 := h.row.cell (i := n) (j := 5) hn (by omega)
  have c6 := h.row.cell (i := n) (j := 6) hn (by omega)
  rw [h.th n hn] at c0
  rw [h.cl n hn] at c1
  rw [h.ct n hn] at c2
  have l3 : Rw W lo _ (g.cv n 3) (cOf s n).w := h.ls n 3 hn (by omega) (by omega)
  have l4 : Rw W lo _ (g.cv n 4) (cOf s n).i := h.ls n 4 hn (by omega) (by omega)
  have l5 : Rw W lo _ (g.cv n 5) (cOf s n).o := h.ls n 5 hn (by omega) (by omega)
  have l6 : Rw W lo _ (g.cv n 6) (cOf s n).h := h.ls n 6 hn (by omega) (by omega)
  obtain ⟨a3, k3, e3, _⟩ := l3.shape
  obtain ⟨a4, k4, e4, _⟩ := l4.shape
  obtain ⟨a5, k5, e5, _⟩ := l5.shape
  obtain ⟨a6, k6, e6, _⟩ := l6.shape
  rw [e3] at c3 l3
  rw [e4] at c4 l4
  rw [e5] at c5 l5
  rw [e6] at c6 l6
  exact ⟨c0, c1, c2, ⟨a3, k3, a4, k4, a5, k5, a6, k6, c3, c4, c5, c6, e3, e4, e5, e6, l3, l4, l5, l6⟩, fun o => h.row.free o, h.row.lt⟩
theorem is_any (c : Int) (w : World) : Calls Try.prog 64 #[.int .i64 c] w fun e w' => e = .returned (.bool (isC c)) ∧ w' = w := by
  unfold isC
  by_cases h1 : 1 ≤ c
  · by_cases h2 : c ≤ 64
    · rw [decide_eq_true ⟨h1, h2⟩]
      go_enter Try.func64, Try.ntmps64
      go_wp2
      go_ret
      exact ⟨rfl, rfl⟩
    · rw [decide_eq_false (fun h => h2 h.2)]
      go_enter Try.func64, Try.ntmps64
      go_wp2
      go_ret
      exact ⟨rfl, rfl⟩
  · rw [decide_eq_false (fun h => h1 h.1)]
    go_enter Try.func64, Try.ntmps64
    go_wp2
    go_ret
    exact ⟨rfl, rfl⟩
theorem part_any (n r : Nat) (m : Int) (w : World) : Calls Try.prog 67 #[.int .i64 (n : Int), .int .i64 (r : Int), .int .i64 m] w fun e w' => e = .returned (.int .i64 (partN n r m : Int)) ∧ w' = w := by
  by_cases h1 : (r : Int) < (n : Int)
  · by_cases h2 : m < (r : Int)
    · by_cases h3 : m < 0
      · rw [show ((partN n r m : Nat) : Int) = 0 from by unfold partN; omega]
        go_enter Try.func67, Try.ntmps67
        go_wp2
        go_ret
        exact ⟨rfl, rfl⟩
      · rw [show ((partN n r m : Nat) : Int) = m from by unfold partN; omega]
        go_enter Try.func67, Try.ntmps67
        go_wp2
        go_ret
        exact ⟨rfl, rfl⟩
    · have h3 : ¬ (r : Int) < 0 := by omega
      rw [show ((partN n r m : Nat) : Int) = r from by unfold partN; omega]
      go_enter Try.func67, Try.ntmps67
      go_wp2
      go_ret
      exact ⟨rfl, rfl⟩
  · by_cases h2 : m < (n : Int)
    · by_cases h3 : m < 0
      · rw [show ((partN n r m : Nat) : Int) = 0 from by unfold partN; omega]
        go_enter Try.func67, Try.ntmps67
        go_wp2
        go_ret
        exact ⟨rfl, rfl⟩
      · rw [show ((partN n r m : Nat) : Int) = m from by unfold partN; omega]
        go_enter Try.func67, Try.ntmps67
        go_wp2
        go_ret
        exact ⟨rfl, rfl⟩
    · have h3 : ¬ (n : Int) < 0 := by omega
      rw [show ((partN n r m : Nat) : Int) = n from by unfold partN; omega]
      go_enter Try.func67, Try.ntmps67
      go_wp2
      go_ret
      exact ⟨rfl, rfl⟩
theorem join_any {lo : Nat} (W : World) {ao bo : Option Addr} {n m ca cb : Nat} {xs ys : List Nat} (h1 : Bs W (.slice ao n ca) xs) (h2 : Bs W (.slice bo m cb) ys) (hn : xs.length = n) (hm : ys.length = m) (hl : n + m ≤ 140737488355328) (hlo : lo ≤ W.heap.size) : Calls Try.prog 66 #[.slice ao n ca, .slice bo m cb] W fun e w' => ∃ v cap, e = .returned (.slice v (n + m) cap) ∧ Rw w' lo 5 (.slice v (n + m) cap) (xs ++ ys) ∧ (∀ k, (Value.slice v (n + m) cap).ownBlock = some k → W.heap.size ≤ k) ∧ Fr W w' (fun _ => False) := by
  obtain ⟨i0, hi, hz0, hz1, hz2⟩ := info_parts Try.info5
  have H1 := hid h1
  have H2 := hid h2
  clear h1 h2
  go_enter Try.func66, Try.ntmps66
  go_wp2_with (at_builtin; refine wpl_rw _ rfl (.tmp 6) (.tmp 7) 33 rfl lo 5 i0 Try.underlying33 hi hz0 hz1 hz2 _ [] (by rfl) (Rw.nil _ _ _) _ xs (by rfl) H1.out (by simp; omega) hlo n (by simp [hn]) ?_)
  intro a3 c3 w6 h31 h32 h33
  have hf6 : Fr W w6 (fun _ => False) := h32.out.mono (fun k _ e => by simp [Value.ownBlock] at e)
  have HB2 : Hid (Bs w6 (.slice bo m cb) ys) := H2.out.keep fun a j u ha hu => by
    have hlt := H2.out.lt ha (by intro e; subst e; simp [by8] at hu)
    exact hf6.block a hlt (fun h => h)
  have hN6 : Hid (∀ k, (Value.slice a3 n c3).ownBlock = some k → W.heap.size ≤ k) := fun k hk => by
    rcases h33.out k hk with h | h
    · simp [Value.ownBlock] at h
    · exact h
  have HF6 := hid hf6
  have hlo6 : lo ≤ w6.heap.size := Nat.le_trans hlo hf6.size
  have H31 : Hid (Rw w6 lo 5 (.slice a3 n c3) xs) := h31.out
  clear h31 h32 h33 hf6 H1 H2
  go_wp2_with (at_builtin; refine wpl_rw _ rfl (.tmp 9) (.tmp 10) 33 rfl lo 5 i0 Try.underlying33 hi hz0 hz1 hz2 _ xs (by rfl) H31.out _ ys (by rfl) HB2.out (by omega) hlo6 (n + m) (by rw [hn, hm]) ?_)
  intro a4 c4 w7 h41 h42 h43
  have HR : Hid (∀ k, (Value.slice a4 (n + m) c4).ownBlock = some k → W.heap.size ≤ k) := fun k hk => by
    rcases h43.out k hk with h | h
    · exact hN6.out k h
    · have := HF6.out.size; omega
  have HF7 := hid (HF6.out.trans2 h42.out (fun k hk e => by have := hN6.out k e; omega))
  go_wp2
  go_ret
  exact ⟨a4, c4, rfl, h41.out, HR.out, HF7.out⟩
end Go.Proofs.Ytljkbnjdciljfaa
