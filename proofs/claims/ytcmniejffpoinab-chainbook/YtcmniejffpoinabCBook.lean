/- ChainBook: two chains side by side, and a row of numbers that the call makes. -/
import Derived.Test.YtcmniejffpoinabCTold
import Derived.Test.YtcmniejffpoinabCPrune2
import Derived.Deep.OwnRows
import Derived.Laws.AppendOwnNone
import Derived.Laws.CopyOwn
import Derived.Deep.DeepMust
namespace Go.Proofs.Ytcmniejffpoinab
open Go.RowKit

theorem layL_le (L : List Vn) (x : Vn) : (layL L x).length ≤ L.length + 1 := by
  unfold layL
  split
  · simp
  · simp
theorem putL_le (L : List Vn) (e x : Int) : (putL L e x).length ≤ L.length + 1 := by
  unfold putL
  split
  · exact layL_le _ _
  · omega
theorem killL_le (L : List Vn) (e : Int) : (killL L e).length ≤ L.length + 1 := by
  unfold killL
  split
  · exact layL_le _ _
  · omega
/-- No slice is longer than its room. -/
def Cp (v : Value) : Prop := ∀ ao n cap, v = .slice ao n cap → n ≤ cap

/-- A nil slice is empty. -/
def Nz (v : Value) : Prop := ∀ n cap, v = .slice none n cap → n = 0 ∧ cap = 0

theorem append_is {w : World} {ops : Array Oper} {rest : List Oper} {o : Oper} {a : Act} {Q : Exit → Act → World → Prop} (hgd : o.guard = none) (s x : Operand)
    (ho : o.op = .call { callee := .builtin .append, args := #[s, x], argTypes := #[22, 22] })
    (base : Nat) (v : Value) (n : Nat) (vs : List Value) (hs : a.eval s = v) (hown : w.ownsRow base 3 1 v n vs)
    (u : Value) (ys : List Int) (hx : a.eval x = u) (hu : Is w u ys) (hnz : Nz u) (hb : n + ys.length ≤ 20000) (hbase : base ≤ w.heap.size)
    (h : ∀ v' w', w'.ownsRow base 3 1 v' (n + ys.length) (vs ++ iv ys) → w.grownBy w' v.ownBlock → wpList Try.prog ops Q rest (a.put o.dst v') w') :
    wpList Try.prog ops Q (o :: rest) a w := by
  obtain ⟨i0, hi, hz0, hz1, hz2⟩ := info_parts Try.info_int
  obtain ⟨ao, cap, rfl, hlen, hfit, hcell⟩ := hu
  match ao with
  | none =>
    obtain ⟨h0, rfl⟩ := hnz _ _ rfl
    have hy : ys = [] := List.eq_nil_of_length_eq_zero h0
    subst hy
    refine wpList_append_own_none hgd s x 22 ho base 3 i0 1 Try.underlying22 hi v n vs hs hown hx ?_
    have := h v w (by simpa [iv] using hown) ⟨rfl, rfl, rfl, Nat.le_refl _, fun _ _ _ => rfl⟩
    exact this
  | some ad =>
    refine wpList_append_own_at w hgd s x 22 ho base 3 i0 (.int .i64 0) 1 8 Try.underlying22 hi hz0 hz1 hz2 rfl (by decide) v n vs hs hown ad ys.length cap (iv ys) hx (by rw [iv_length, Nat.mul_one]) ?_ (iv_one ys) (by unfold maxLen; omega) (by omega) hbase ?_
    · intro j z hz
      have hj : j < ys.length := by
        rcases Nat.lt_or_ge j ys.length with h | h
        · exact h
        · rw [List.getElem?_eq_none (by rw [iv_length]; exact h)] at hz
          cases hz
      obtain ⟨b, off, e, hck⟩ := hcell (by intro e; subst e; simp at hj)
      cases e
      rw [Addr.add_lit, hck j hj, ← hz, iv_get ys j hj]
    · intro v' w' h1 h2 _ _
      exact h v' w' h1 h2
set_option maxHeartbeats 1000000 in
theorem even_true (v u : Value) (xs : List Int) (w : World) (hv : Is w v xs) (hu : Is w u xs) :
    Calls Try.prog 10 #[v, u] w fun e w' => e = .returned (.bool true) ∧ Fr w w' (fun _ => False) := by
  obtain ⟨ao, cap, rfl, hlen, hfit, hcell⟩ := id hv
  obtain ⟨bo, cbp, rfl, _, _, hcell2⟩ := id hu
  have HV := hid hv
  have HU := hid hu
  clear hv hu hcell hcell2 hfit
  go_enter Try.func10, Try.ntmps10
  go_wp2_with fail
  go_loopg [5] xs.length (fun g s5 wx => ∃ i : Nat, s5 = .int .i64 (i : Int) ∧ i + g = xs.length ∧ Hid (Fr w wx (fun _ => False)))
  case atStart => exact ⟨0, rfl, by omega, Fr.refl _ _⟩
  case round =>
    obtain ⟨i, rfl, hg, HF⟩ := hrel
    cases gk with
    | zero =>
      have t1 : ¬ (i : Int) < (xs.length : Int) := by omega
      clear hg
      go_wp2_with fail
      go_ret
      exact ⟨rfl, HF.out⟩
    | succ g =>
      have hi : i < xs.length := by omega
      have t1 : (i : Int) < (xs.length : Int) := by omega
      obtain ⟨ao', cap', e, _, _, hc1⟩ := HV.out.fr HF.out
      obtain ⟨b, off, e2, k1⟩ := hc1 (by intro e; subst e; simp at hi)
      cases e
      cases e2
      obtain ⟨bo', cbp', e, _, _, hc2⟩ := HU.out.fr HF.out
      obtain ⟨b2, off2, e2, k2⟩ := hc2 (by intro e; subst e; simp at hi)
      cases e
      cases e2
      have c1 := k1 i hi
      have c2 := k2 i hi
      clear hc1 hc2 k1 k2
      generalize xs.getD i 0 = x at *
      have HG := hid hg
      clear hg
      go_wp2_with fail
      go_region
      go_wp2_with fail
      go_roundg g
      case measure => omega
      case rel => exact ⟨i + 1, by go_num, by have := HG.out; omega, HF.out.drew⟩


/-- Two chains, apart. -/
structure D2 (w wx : World) (B1 B2 : Nat) (v1 v2 : Value) (L1 L2 : List Vn) : Prop where
  fr : Fr w wx (fun _ => False)
  c : Ch wx w.heap.size B1 v1 L1
  d : Ch wx w.heap.size B2 v2 L2
  ne : B1 ≠ B2
  sep : ∀ k, v1.ownBlock = some k → v2.ownBlock ≠ some k
  l1 : w.heap.size ≤ B1
  l2 : w.heap.size ≤ B2
theorem D2.swap {w wx : World} {B1 B2 : Nat} {v1 v2 : Value} {L1 L2 : List Vn} (h : D2 w wx B1 B2 v1 v2 L1 L2) : D2 w wx B2 B1 v2 v1 L2 L1 :=
  ⟨h.fr, h.d, h.c, Ne.symm h.ne, fun k hk e => h.sep k e hk, h.l2, h.l1⟩
theorem D2.step {w wx wy : World} {B1 B2 : Nat} {v1 v2 : Value} {L1 L2 : List Vn} (h : D2 w wx B1 B2 v1 v2 L1 L2) (hf : Fr wx wy (fun _ => False)) : D2 w wy B1 B2 v1 v2 L1 L2 :=
  ⟨h.fr.trans hf, h.c.step hf, h.d.step hf, h.ne, h.sep, h.l1, h.l2⟩
theorem Ch.own_cell {w : World} {B C base base' : Nat} {v v' : Value} {L L' : List Vn} (h : Ch w base B v L) (h' : Ch w base' C v' L') : v'.ownBlock ≠ some B := own_ne h'.own h.cell (by decide)
theorem D2.one {w wx wy : World} {B1 B2 : Nat} {v1 v1' v2 : Value} {L1 L1' L2 : List Vn} (h : D2 w wx B1 B2 v1 v2 L1 L2) (hc : Ch wy w.heap.size B1 v1' L1') (hf : Fr wx wy (fun k => k = B1 ∨ v1.ownBlock = some k)) (hn : Nw wx v1 v1') : D2 w wy B1 B2 v1' v2 L1' L2 := by
  refine ⟨h.c.frOwn h.fr hf (Nat.le_refl _) h.l1, hc, h.d.fr hf (fun e => ?_) (fun k hk e => ?_), h.ne, fun k hk e => ?_, h.l1, h.l2⟩
  · rcases e with e | e
    · exact h.ne e.symm
    · exact h.d.own_cell h.c e
  · rcases e with e | e
    · subst e
      exact h.c.own_cell h.d hk
    · exact h.sep k e hk
  · rcases hn k hk with h1 | h1
    · exact h.sep k h1 e
    · have := (h.d.own.lt k e).2
      omega
theorem D2.two {w wx wy : World} {B1 B2 : Nat} {v1 v2 v2' : Value} {L1 L2 L2' : List Vn} (h : D2 w wx B1 B2 v1 v2 L1 L2) (hd : Ch wy w.heap.size B2 v2' L2') (hf : Fr wx wy (fun k => k = B2 ∨ v2.ownBlock = some k)) (hn : Nw wx v2 v2') : D2 w wy B1 B2 v1 v2' L1 L2' :=
  (h.swap.one hd hf hn).swap

/-- A row of numbers, whole. -/
def RI (w : World) (N : Nat) (zs : List Int) : Prop := w.heap[N]? = some (.cells (iv zs).toArray 3 (0, 0))
theorem RI.lt {w : World} {N : Nat} {zs : List Int} (h : RI w N zs) : N < w.heap.size := lt_of_block h
theorem RI.fr {w w' : World} {S : Nat → Prop} {N : Nat} {zs : List Int} (h : RI w N zs) (hf : Fr w w' S) (hS : ¬ S N) : RI w' N zs := by
  unfold RI
  rw [hf.block N h.lt hS]
  exact h
theorem RI.free {w : World} {N : Nat} {zs : List Int} (h : RI w N zs) (o : Nat) : w.frozen? ⟨N, o, none⟩ = false := by
  have h' : w.heap[N]? = some (.cells (iv zs).toArray 3 (0, 0)) := h
  simp [World.frozen?, h']
theorem RI.cell {w : World} {N : Nat} {zs : List Int} (h : RI w N zs) (j : Nat) (hj : j < zs.length) : w.cell? ⟨N, j, none⟩ = some (.int .i64 (zs.getD j 0)) := by
  rw [cell_of_row w N j _ _ (0, 0) h, List.getElem?_toArray]
  exact iv_get zs j hj
theorem RI.set {w : World} {N : Nat} {zs : List Int} (h : RI w N zs) (j : Nat) (y : Int) : RI (w.setCell ⟨N, j, none⟩ (.int .i64 y)) N (zs.set j y) := by
  unfold RI
  rw [heap_setCell_same w N j _ _ _ h]
  congr 2
  apply Array.ext'
  simp [iv]
theorem RI.is {w : World} {N : Nat} {zs : List Int} (h : RI w N zs) (k cap : Nat) (hk : k ≤ zs.length) (hl : zs.length ≤ 1000) (hf : ∀ x ∈ zs, fits x) : Is w (.slice (some ⟨N, 0, none⟩) k cap) (zs.take k) := by
  have hlen : (zs.take k).length = k := by rw [List.length_take]; omega
  refine ⟨some ⟨N, 0, none⟩, cap, by rw [hlen], by rw [hlen]; omega, fun x hx => hf x (List.take_subset _ _ hx), fun _ => ⟨N, 0, rfl, fun i hi => ?_⟩⟩
  rw [hlen] at hi
  have e : (zs.take k).getD i 0 = zs.getD i 0 := by simp [List.getD, hi]
  rw [Nat.zero_add, e]
  exact h.cell i (by omega)
/-- A store into the row leaves the chains, and the row stands under them. -/
theorem D2.store {w wx wy : World} {B1 B2 N : Nat} {v1 v2 : Value} {L1 L2 : List Vn} {zs : List Int} (h : D2 w wx B1 B2 v1 v2 L1 L2) (hr : RI wx N zs) (hN : w.heap.size ≤ N) (hf : Fr wx wy (fun k => k = N)) : D2 w wy B1 B2 v1 v2 L1 L2 := by
  have hr' : wx.heap[N]? = some (.cells (iv zs).toArray 3 (0, 0)) := hr
  have n1 : B1 ≠ N := fun e => by subst e; have := h.c.cell.symm.trans hr'; simp at this
  have n2 : B2 ≠ N := fun e => by subst e; have := h.d.cell.symm.trans hr'; simp at this
  exact ⟨h.fr.trans2 hf (fun k hk e => by omega), h.c.fr hf n1 (fun k hk e => by subst e; exact own_ne h.c.own hr' (by decide) hk), h.d.fr hf n2 (fun k hk e => by subst e; exact own_ne h.d.own hr' (by decide) hk), h.ne, h.sep, h.l1, h.l2⟩
theorem RI.one {wx wy : World} {base B N : Nat} {v : Value} {L : List Vn} {zs : List Int} (hr : RI wx N zs) (hc : Ch wx base B v L) (hf : Fr wx wy (fun k => k = B ∨ v.ownBlock = some k)) : RI wy N zs := by
  have hr' : wx.heap[N]? = some (.cells (iv zs).toArray 3 (0, 0)) := hr
  refine hr.fr hf (fun e => ?_)
  rcases e with e | e
  · subst e
    have := hc.cell.symm.trans hr'
    simp at this
  · exact own_ne hc.own hr' (by decide) e
theorem set_fits {zs : List Int} (h : ∀ x ∈ zs, fits x) (j : Nat) {y : Int} (hy : fits y) : ∀ x ∈ zs.set j y, fits x := by
  intro x hx
  rcases List.mem_or_eq_of_mem_set hx with h1 | h1
  · exact h x h1
  · rw [h1]
    exact hy
end Go.Proofs.Ytcmniejffpoinab
