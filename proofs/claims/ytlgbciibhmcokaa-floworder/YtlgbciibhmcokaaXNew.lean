/- flow: New: a walk. -/
import Derived.Test.YtlgbciibhmcokaaXOps6
import Derived.Deep.DeepMust
namespace Go.Proofs.Ytlgbciibhmcokaa
open Go.RowKit

theorem Try.info_feed : (Try.prog.info? 64).map (fun i => (i.zero, i.size, i.bytes)) = some (some (.agg #[.slice none 0 0, .int .i64 0, .int .i64 0, .int .i64 0, .int .i64 0]), 5, 56) := by kernel_rfl
theorem Try.info_ring : (Try.prog.info? 67).map (fun i => (i.zero, i.size, i.bytes)) = some (some (.agg #[.slice none 0 0, .int .i64 0, .int .i64 0, .int .i64 0]), 4, 48) := by kernel_rfl
theorem infoP {o : Option TypeInfo} {z : Value} {n m : Nat} (h : o.map (fun i => (i.zero, i.size, i.bytes)) = some (some z, n, m)) : ∃ i, o = some i ∧ i.zero = some z ∧ i.size = n ∧ i.bytes = m := by
  cases o with
  | none => simp at h
  | some i =>
    simp at h
    exact ⟨i, rfl, h.1, h.2.1, h.2.2⟩
/-- Records in a row of one's own. -/
def Ow {α : Type} (f : α → List Value) (T : TypeId) (K : Nat) (w wx : World) (v : Value) (l : List α) : Prop := wx.ownsRow w.heap.size T K v l.length (fl f l)
theorem wpl_feed {W wb : World} {ops : Array Oper} {rest : List Oper} {o : Oper} {a : Act} {Q : Exit → Act → World → Prop} (hgd : o.guard = none) (sl x : Operand)
    (ho : o.op = .call { callee := .builtin .append, args := #[sl, x], argTypes := #[57, 57] }) (v : Value) (l : List Fd) (hs : a.eval sl = v) (N : Nat) (hx : a.eval x = .slice (some ⟨N, 0, none⟩) 1 1) (hn : l.length ≤ 1000000) (hb : Ow fc 64 5 wb W v l) (hbs : wb.heap.size ≤ W.heap.size) (hy : W.heap[N]? = some (.cells (fc fd0).toArray 64 (0, 0)))
    (h : ∀ v' w', Ow fc 64 5 wb w' v' (l ++ [fd0]) → W.grownBy w' v.ownBlock → Nw W v v' → wpList Try.prog ops Q rest (a.put o.dst v') w') : wpList Try.prog ops Q (o :: rest) a W := by
  obtain ⟨i0, hi, hz0, hz1, hz2⟩ := infoP Try.info_feed
  refine wpList_append_own_at W hgd sl x 57 ho wb.heap.size 64 i0 _ 5 56 Try.underlying57 hi hz0 hz1 hz2 rfl (by decide) v l.length (fl fc l) hs hb ⟨N, 0, none⟩ 1 1 (fc fd0) hx rfl ?_ (by intro u hu; simp [fc, fd0] at hu; rcases hu with rfl | rfl | rfl | rfl | rfl <;> rfl) (by unfold maxLen; omega) (by omega) hbs ?_
  · intro j u hj
    rw [Addr.add_lit, Nat.zero_add, cell_of_row W N j _ _ (0, 0) hy]
    simpa using hj
  · intro v' w' hown hgr _ hat
    refine h v' w' ?_ hgr (Nw.of hat (Nat.le_refl _))
    unfold Ow
    rw [fl_append, List.length_append]
    simpa [fl] using hown
theorem wpl_ring {W wb : World} {box : Nat} {ops : Array Oper} {rest : List Oper} {o : Oper} {a : Act} {Q : Exit → Act → World → Prop} (hgd : o.guard = none) (sl x : Operand)
    (ho : o.op = .call { callee := .builtin .append, args := #[sl, x], argTypes := #[58, 58] }) (v : Value) (l : List Bx) (hs : a.eval sl = v) (N : Nat) (hx : a.eval x = .slice (some ⟨N, 0, none⟩) 1 1) (hn : l.length ≤ 1000000) (hb : Ow (bc box) 67 4 wb W v l) (hbs : wb.heap.size ≤ W.heap.size) (hy : W.heap[N]? = some (.cells (bc box bx0).toArray 67 (0, 0)))
    (h : ∀ v' w', Ow (bc box) 67 4 wb w' v' (l ++ [bx0]) → W.grownBy w' v.ownBlock → Nw W v v' → wpList Try.prog ops Q rest (a.put o.dst v') w') : wpList Try.prog ops Q (o :: rest) a W := by
  obtain ⟨i0, hi, hz0, hz1, hz2⟩ := infoP Try.info_ring
  refine wpList_append_own_at W hgd sl x 58 ho wb.heap.size 67 i0 _ 4 48 Try.underlying58 hi hz0 hz1 hz2 rfl (by decide) v l.length (fl (bc box) l) hs hb ⟨N, 0, none⟩ 1 1 (bc box bx0) hx rfl ?_ (by intro u hu; simp [bc, bx0] at hu; rcases hu with rfl | rfl | rfl | rfl <;> rfl) (by unfold maxLen; omega) (by omega) hbs ?_
  · intro j u hj
    rw [Addr.add_lit, Nat.zero_add, cell_of_row W N j _ _ (0, 0) hy]
    simpa using hj
  · intro v' w' hown hgr _ hat
    refine h v' w' ?_ hgr (Nw.of hat (Nat.le_refl _))
    unfold Ow
    rw [fl_append, List.length_append]
    simpa [fl] using hown
/-- What New stands in. -/
structure NS (w wx : World) (B : Nat) (vf vx : Value) (nf nx box : Nat) : Prop where
  cell : wx.heap[B]? = some (.cells #[vf, vx] 60 (0, 0))
  f : Ow fc 64 5 w wx vf (List.replicate nf fd0)
  x : Ow (bc box) 67 4 w wx vx (List.replicate nx bx0)
  fr : Fr w wx (fun _ => False)
  bn : w.heap.size ≤ B
theorem NS.step {w wx wy : World} {B : Nat} {vf vx : Value} {nf nx box : Nat} (h : NS w wx B vf vx nf nx box) (hf : Fr wx wy (fun _ => False)) : NS w wy B vf vx nf nx box :=
  ⟨keep_block h.cell hf (fun h => h), own_fr h.f hf (fun _ _ h => h), own_fr h.x hf (fun _ _ h => h), h.fr.trans hf, h.bn⟩
theorem NS.addF {w wx W w1 : World} {B : Nat} {vf vx v' : Value} {nf nx box : Nat} (h : NS w wx B vf vx nf nx box) (hA : Fr wx W (fun _ => False)) (ho : Ow fc 64 5 w w1 v' (List.replicate nf fd0 ++ [fd0])) (hg : W.grownBy w1 vf.ownBlock) (hn : Nw W vf v') : w1.cell? ⟨B, 0, none⟩ = some vf ∧ w1.frozen? ⟨B, 0, none⟩ = false ∧ B < w1.heap.size ∧ NS w (w1.setCell ⟨B, 0, none⟩ v') B v' vx (nf + 1) nx box := by
  have h2 := h.step hA
  have hvB : vf.ownBlock ≠ some B := own_ne h2.f h2.cell (by decide)
  have hxB : vx.ownBlock ≠ some B := own_ne h2.x h2.cell (by decide)
  have hxf : ∀ k, vx.ownBlock = some k → vf.ownBlock ≠ some k := fun k hk e => by
    rcases h2.f.2 with ⟨e1, _⟩ | ⟨g, cap, cur, e1, _, hg, _⟩
    · rw [e1] at e; simp [Value.ownBlock] at e
    · rw [e1] at e; simp [Value.ownBlock] at e; subst e; exact own_ne h2.x hg (by decide) hk
  have hB1 : w1.heap[B]? = some (.cells #[vf, vx] 60 (0, 0)) := (hg.block B (lt_of_block h2.cell) (fun e => hvB e.symm)).trans h2.cell
  have hfr1 : Fr W w1 (fun k => vf.ownBlock = some k) := Fr.grown (Fr.refl W _) hg (fun k _ e => e)
  have hx1 : Ow (bc box) 67 4 w w1 vx (List.replicate nx bx0) := own_fr h2.x hfr1 (fun k hk => hxf k hk)
  have hfr : Fr w w1 (fun _ => False) := h2.fr.trans2 hfr1 (fun k hk e => by have := h2.f.lt k e; omega)
  have hfs := set_fr w1 B 0 v'
  have hv'B : v'.ownBlock ≠ some B := fun e => by
    rcases hn B e with h' | h'
    · exact hvB h'
    · have := lt_of_block h2.cell; omega
  refine ⟨by simp [World.cell?, hB1], free_of hB1 0, lt_of_block hB1, ?_, ?_, ?_, ?_, h.bn⟩
  · rw [heap_setCell_same w1 B 0 _ _ v' hB1]; rfl
  · unfold Ow
    rw [List.replicate_succ']
    exact own_fr ho hfs (fun k hk e => hv'B (by rw [hk, e]))
  · exact own_fr hx1 hfs (fun k hk e => hxB (by rw [hk, e]))
  · exact hfr.trans2 hfs (fun k hk e => by have := h.bn; omega)
theorem NS.addX {w wx W w1 : World} {B : Nat} {vf vx v' : Value} {nf nx box : Nat} (h : NS w wx B vf vx nf nx box) (hA : Fr wx W (fun _ => False)) (ho : Ow (bc box) 67 4 w w1 v' (List.replicate nx bx0 ++ [bx0])) (hg : W.grownBy w1 vx.ownBlock) (hn : Nw W vx v') : w1.cell? ⟨B, 1, none⟩ = some vx ∧ w1.frozen? ⟨B, 1, none⟩ = false ∧ B < w1.heap.size ∧ NS w (w1.setCell ⟨B, 1, none⟩ v') B vf v' nf (nx + 1) box := by
  have h2 := h.step hA
  have hvB : vf.ownBlock ≠ some B := own_ne h2.f h2.cell (by decide)
  have hxB : vx.ownBlock ≠ some B := own_ne h2.x h2.cell (by decide)
  have hxf : ∀ k, vf.ownBlock = some k → vx.ownBlock ≠ some k := fun k hk e => by
    rcases h2.x.2 with ⟨e1, _⟩ | ⟨g, cap, cur, e1, _, hg, _⟩
    · rw [e1] at e; simp [Value.ownBlock] at e
    · rw [e1] at e; simp [Value.ownBlock] at e; subst e; exact own_ne h2.f hg (by decide) hk
  have hB1 : w1.heap[B]? = some (.cells #[vf, vx] 60 (0, 0)) := (hg.block B (lt_of_block h2.cell) (fun e => hxB e.symm)).trans h2.cell
  have hfr1 : Fr W w1 (fun k => vx.ownBlock = some k) := Fr.grown (Fr.refl W _) hg (fun k _ e => e)
  have hf1 : Ow fc 64 5 w w1 vf (List.replicate nf fd0) := own_fr h2.f hfr1 (fun k hk => hxf k hk)
  have hfr : Fr w w1 (fun _ => False) := h2.fr.trans2 hfr1 (fun k hk e => by have := h2.x.lt k e; omega)
  have hfs := set_fr w1 B 1 v'
  have hv'B : v'.ownBlock ≠ some B := fun e => by
    rcases hn B e with h' | h'
    · exact hxB h'
    · have := lt_of_block h2.cell; omega
  refine ⟨by simp [World.cell?, hB1], free_of hB1 1, lt_of_block hB1, ?_, ?_, ?_, ?_, h.bn⟩
  · rw [heap_setCell_same w1 B 1 _ _ v' hB1]; rfl
  · exact own_fr hf1 hfs (fun k hk e => hvB (by rw [hk, e]))
  · unfold Ow
    rw [List.replicate_succ']
    exact own_fr ho hfs (fun k hk e => hv'B (by rw [hk, e]))
  · exact hfr.trans2 hfs (fun k hk e => by have := h.bn; omega)
/-- An owned row, its block. -/
theorem Ow.row {α : Type} {f : α → List Value} {T : TypeId} {K : Nat} {w wx : World} {v : Value} {l : List α} (h : Ow f T K w wx v l) (hl : 0 < l.length) : ∃ g cap rest, v = .slice (some ⟨g, 0, none⟩) l.length cap ∧ Row f T wx g l rest ∧ w.heap.size ≤ g := by
  rcases h.2 with ⟨rfl, h0⟩ | ⟨g, cap, cur, rfl, hb, hg, hn, hm, hcs, htake⟩
  · omega
  · refine ⟨g, cap, cur.toList.drop (l.length * K), rfl, ?_, hb⟩
    unfold Row
    rw [hg]
    congr 2
    apply Array.ext'
    rw [List.toList_toArray, ← htake, List.take_append_drop]
/-- The state of a new flow. -/
def newP (ns no : Nat) : Ps := ⟨List.replicate ns [], List.replicate ns 0, List.replicate no []⟩
theorem rep_getD {α : Type} (n i : Nat) (z : α) : (List.replicate n z).getD i z = z := by
  simp [List.getD]
  rcases Nat.lt_or_ge i n with h | h
  · simp [h]
  · rw [List.getElem?_eq_none (by simpa using h)]; rfl
/-- What New leaves. -/
def NewF (w w' : World) (ns no box : Nat) (e : Ending) : Prop := ∃ g : Fx, e = .returned (.tuple #[.pointer (some ⟨g.B, 0, none⟩), .int .i64 0]) ∧ Fw w' g box ∧ g.ps = newP ns no ∧ (∀ k, g.ow k → w.heap.size ≤ k) ∧ Fr w w' (fun _ => False)
theorem NS.done {w wx : World} {B : Nat} {vf vx : Value} {nf nx box : Nat} (h : NS w wx B vf vx nf nx box) (h1 : 1 ≤ nf ∧ nf ≤ 8) (h2 : 1 ≤ nx ∧ nx ≤ 8) (h3 : 1 ≤ box ∧ box ≤ 64) : NewF w wx nf nx box (.returned (.tuple #[.pointer (some ⟨B, 0, none⟩), .int .i64 0])) := by
  have hlf : (List.replicate nf fd0).length = nf := List.length_replicate
  have hlx : (List.replicate nx bx0).length = nx := List.length_replicate
  obtain ⟨F, cf, rf, rfl, hF, hFb⟩ := h.f.row (by omega)
  obtain ⟨X, cx, rx, rfl, hX, hXb⟩ := h.x.row (by omega)
  refine ⟨⟨B, F, X, cf, cx, List.replicate nf fd0, List.replicate nx bx0, rf, rx⟩, rfl, ⟨h.cell, hF, hX, ?_, ?_, ?_, ?_, by show 1 ≤ (List.replicate nf fd0).length ∧ (List.replicate nf fd0).length ≤ 8; rw [hlf]; exact h1, by show 1 ≤ (List.replicate nx bx0).length ∧ (List.replicate nx bx0).length ≤ 8; rw [hlx]; exact h2, h3⟩, ?_, ?_, h.fr⟩
  · intro i hi
    show RI.RR wx ((List.replicate nf fd0).getD i fd0).v ((List.replicate nf fd0).getD i fd0).st ((List.replicate nf fd0).getD i fd0).q ∧ ((List.replicate nf fd0).getD i fd0).q.length ≤ 65536 ∧ ((List.replicate nf fd0).getD i fd0).n < (List.replicate nx bx0).length ∧ ∀ x ∈ ((List.replicate nf fd0).getD i fd0).q, errC x = 0
    rw [rep_getD, hlx]
    exact ⟨Or.inl ⟨rfl, rfl, rfl⟩, Nat.zero_le _, by show 0 < nx; omega, fun x hx => by cases hx⟩
  · intro i hi
    show RM.RR wx ((List.replicate nx bx0).getD i bx0).v ((List.replicate nx bx0).getD i bx0).st ((List.replicate nx bx0).getD i bx0).ms ∧ ((List.replicate nx bx0).getD i bx0).ms.length ≤ box
    rw [rep_getD]
    exact ⟨Or.inl ⟨rfl, rfl, rfl⟩, Nat.zero_le _⟩
  · intro i j k _ _ hk
    change ((List.replicate nf fd0).getD i fd0).v.ownBlock = some k at hk
    rw [rep_getD] at hk
    simp [fd0, Value.ownBlock] at hk
  · intro i j k _ _ hk
    change ((List.replicate nx bx0).getD i bx0).v.ownBlock = some k at hk
    rw [rep_getD] at hk
    simp [bx0, Value.ownBlock] at hk
  · simp [Fx.ps, newP, fd0, bx0]
  · rintro k (e | e | e | ⟨i, _, hk⟩ | ⟨i, _, hk⟩)
    · rw [e]; exact h.bn
    · rw [e]; exact hFb
    · rw [e]; exact hXb
    · change ((List.replicate nf fd0).getD i fd0).v.ownBlock = some k at hk
      rw [rep_getD] at hk
      simp [fd0, Value.ownBlock] at hk
    · change ((List.replicate nx bx0).getD i bx0).v.ownBlock = some k at hk
      rw [rep_getD] at hk
      simp [bx0, Value.ownBlock] at hk
set_option maxHeartbeats 2000000 in
theorem fnew_bad {ns no box : Int} (w : World) (h : ¬ ((1 ≤ ns ∧ ns ≤ 8) ∧ (1 ≤ no ∧ no ≤ 8) ∧ (1 ≤ box ∧ box ≤ 64))) : Calls Try.prog 9 #[.int .i64 ns, .int .i64 no, .int .i64 box] w fun e w' => e = .returned (.tuple #[.pointer none, .int .i64 1]) ∧ Fr w w' (fun _ => False) := by
  have HC := hid from1_any
  by_cases h1 : 1 ≤ ns ∧ ns ≤ 8
  · by_cases h2 : 1 ≤ no ∧ no ≤ 8
    · have h3 : ¬ (1 ≤ box ∧ box ≤ 64) := fun h3 => h ⟨h1, h2, h3⟩
      have H1 := hid (fun W => from1_any ns 8 W)
      have H2 := hid (fun W => from1_any no 8 W)
      have H3 := hid (fun W => from1_any box 64 W)
      rw [decide_eq_true h1] at H1
      rw [decide_eq_true h2] at H2
      rw [decide_eq_false h3] at H3
      clear h h1 h2 h3 HC
      go_enter Try.func9, Try.ntmps9
      go_wp2_with fail
      refine (H1.out _).mono ?_
      rintro e w1 ⟨rfl, rfl⟩
      go_wp2_with fail
      refine (H2.out _).mono ?_
      rintro e w1 ⟨rfl, rfl⟩
      go_wp2_with fail
      refine (H3.out _).mono ?_
      rintro e w1 ⟨rfl, rfl⟩
      go_wp2_with fail
      go_ret2
      exact ⟨rfl, Fr.refl _ _⟩
    · have H1 := hid (fun W => from1_any ns 8 W)
      have H2 := hid (fun W => from1_any no 8 W)
      rw [decide_eq_true h1] at H1
      rw [decide_eq_false h2] at H2
      clear h h1 h2 HC
      go_enter Try.func9, Try.ntmps9
      go_wp2_with fail
      refine (H1.out _).mono ?_
      rintro e w1 ⟨rfl, rfl⟩
      go_wp2_with fail
      refine (H2.out _).mono ?_
      rintro e w1 ⟨rfl, rfl⟩
      go_wp2_with fail
      go_ret2
      exact ⟨rfl, Fr.refl _ _⟩
  · have H1 := hid (fun W => from1_any ns 8 W)
    rw [decide_eq_false h1] at H1
    clear h h1 HC
    go_enter Try.func9, Try.ntmps9
    go_wp2_with fail
    refine (H1.out _).mono ?_
    rintro e w1 ⟨rfl, rfl⟩
    go_wp2_with fail
    go_ret2
    exact ⟨rfl, Fr.refl _ _⟩
set_option maxHeartbeats 4000000 in
theorem fnew_ok {ns no box : Nat} (w : World) (h1 : 1 ≤ ns ∧ ns ≤ 8) (h2 : 1 ≤ no ∧ no ≤ 8) (h3 : 1 ≤ box ∧ box ≤ 64) : Calls Try.prog 9 #[.int .i64 (ns : Int), .int .i64 (no : Int), .int .i64 (box : Int)] w fun e w' => NewF w w' ns no box e := by
  have H1 := hid (fun W => from1_any (ns : Int) 8 W)
  have H2 := hid (fun W => from1_any (no : Int) 8 W)
  have H3 := hid (fun W => from1_any (box : Int) 64 W)
  rw [decide_eq_true (by omega)] at H1
  rw [decide_eq_true (by omega)] at H2
  rw [decide_eq_true (by omega)] at H3
  have HD : Hid (∀ wx B vf vx, NS w wx B vf vx ns no box → NewF w wx ns no box (.returned (.tuple #[.pointer (some ⟨B, 0, none⟩), .int .i64 0]))) := fun wx B vf vx h => h.done h1 h2 h3
  have hn8 : ns ≤ 8 := h1.2
  have ho8 : no ≤ 8 := h2.2
  go_enter Try.func9, Try.ntmps9
  go_wp2_with fail
  refine (H1.out _).mono ?_
  rintro e w1 ⟨rfl, h9⟩
  obtain rfl : w = w1 := h9.symm
  clear h9
  go_wp2_with fail
  refine (H2.out _).mono ?_
  rintro e w1 ⟨rfl, h9⟩
  obtain rfl : w = w1 := h9.symm
  clear h9
  go_wp2_with fail
  refine (H3.out _).mono ?_
  rintro e w1 ⟨rfl, h9⟩
  obtain rfl : w = w1 := h9.symm
  clear h9
  go_wp2_with fail
  have HN0 : Hid (NS w (w.alloc (.cells #[.slice none 0 0, .slice none 0 0] 60)) w.heap.size (.slice none 0 0) (.slice none 0 0) 0 0 box) := ⟨heap_last _ _ _ rfl, ⟨rfl, Or.inl ⟨rfl, rfl⟩⟩, ⟨rfl, Or.inl ⟨rfl, rfl⟩⟩, alloc_fr _ _ _, Nat.le_refl _⟩
  generalize (w.alloc (.cells #[.slice none 0 0, .slice none 0 0] 60)) = w1 at *
  have HWN := hid (Nat.le_refl w.heap.size)
  generalize hBB : w.heap.size = B at HN0 ⊢
  clear hBB
  go_loopg [25] ns (fun q s25 wx => ∃ (i : Nat) (vf : Value), s25 = .int .i64 (i : Int) ∧ Hid (i + q = ns) ∧ Hid (NS w wx B vf (.slice none 0 0) i 0 box))
  case atStart => exact ⟨0, _, rfl, by show _ = _; omega, HN0⟩
  case round =>
    obtain ⟨i, vf, rfl, HG, HN⟩ := hrel
    clear HN0
    cases gk with
    | succ q =>
      have t1 : (i : Int) < (ns : Int) := by have := HG.out; omega
      have hi8 : i ≤ 8 := by have := HG.out; omega
      obtain ⟨af, cf, hv⟩ := own_nil_shape HN.out.f
      rw [List.length_replicate] at hv
      subst hv
      have c0 : wr.cell? ⟨B, 0, none⟩ = some (.slice af i cf) := by simp [World.cell?, HN.out.cell]
      have hlt := lt_of_block HN.out.cell
      go_wp2_with (at_builtin; go_must (refine wpl_feed (wb := w) rfl (.tmp 31) (.tmp 34) rfl _ (List.replicate i fd0) rfl wr.heap.size rfl ?c1 ?c2 ?c3 ?c4 ?_))
      case c1 => simp; omega
      case c2 => exact own_fr HN.out.f (alloc_fr _ _ (fun _ => False)) (fun _ _ h => h)
      case c3 => exact Nat.le_trans HN.out.fr.size (alloc_fr wr _ (fun _ => False)).size
      case c4 => exact heap_last _ _ _ rfl
      intro v' w2 ho hg hn
      obtain ⟨a2, cp2, hv2⟩ := own_nil_shape ho
      rw [List.length_append, List.length_replicate, List.length_singleton] at hv2
      subst hv2
      obtain ⟨d0, d1, d2, hns⟩ := HN.out.addF (alloc_fr _ _ _) ho hg hn
      have HNS := hid hns
      clear hns ho hg hn c0 hlt HN
      go_wp2_with fail
      go_roundg q
      case measure => omega
      case rel => exact ⟨i + 1, _, by go_num, by have := HG.out; show _ = _; omega, HNS⟩
    | zero =>
      have t1 : ¬ (i : Int) < (ns : Int) := by have := HG.out; omega
      have HN1 : Hid (NS w wr B vf (.slice none 0 0) ns 0 box) := by
        have e : i = ns := by have := HG.out; omega
        subst e; exact HN.out
      clear HN HG
      go_wp2_with fail
      generalize wr = W1 at *
      go_loopg [40] no (fun q s40 wx => ∃ (i : Nat) (vx : Value), s40 = .int .i64 (i : Int) ∧ Hid (i + q = no) ∧ Hid (NS w wx B vf vx ns i box))
      case atStart => exact ⟨0, _, rfl, by show _ = _; omega, HN1⟩
      case round =>
        obtain ⟨i2, vx, rfl, HG, HN⟩ := hrel
        clear HN1 t1
        cases gk with
        | succ q =>
          have t2 : (i2 : Int) < (no : Int) := by have := HG.out; omega
          have hi8 : i2 ≤ 8 := by have := HG.out; omega
          obtain ⟨af, cf, hv⟩ := own_nil_shape HN.out.x
          rw [List.length_replicate] at hv
          subst hv
          have c0 : wr.cell? ⟨B, 1, none⟩ = some (.slice af i2 cf) := by simp [World.cell?, HN.out.cell]
          have hlt := lt_of_block HN.out.cell
          go_wp2_with (at_builtin; go_must (refine wpl_ring (wb := w) (box := box) rfl (.tmp 46) (.tmp 49) rfl _ (List.replicate i2 bx0) rfl wr.heap.size rfl ?c1 ?c2 ?c3 ?c4 ?_))
          case c1 => simp; omega
          case c2 => exact own_fr HN.out.x (alloc_fr _ _ (fun _ => False)) (fun _ _ h => h)
          case c3 => exact Nat.le_trans HN.out.fr.size (alloc_fr wr _ (fun _ => False)).size
          case c4 => exact heap_last _ _ _ rfl
          intro v' w2 ho hg hn
          obtain ⟨a2, cp2, hv2⟩ := own_nil_shape ho
          rw [List.length_append, List.length_replicate, List.length_singleton] at hv2
          subst hv2
          obtain ⟨d0, d1, d2, hns⟩ := HN.out.addX (alloc_fr _ _ _) ho hg hn
          have HNS := hid hns
          clear hns ho hg hn c0 hlt HN
          go_wp2_with fail
          go_roundg q
          case measure => omega
          case rel => exact ⟨i2 + 1, _, by go_num, by have := HG.out; show _ = _; omega, HNS⟩
        | zero =>
          have t2 : ¬ (i2 : Int) < (no : Int) := by have := HG.out; omega
          have HN2 : Hid (NS w wr B vf vx ns no box) := by
            have e : i2 = no := by have := HG.out; omega
            subst e; exact HN.out
          go_wp2_with fail
          go_ret2
          exact HD.out _ _ _ _ HN2.out
end Go.Proofs.Ytlgbciibhmcokaa
