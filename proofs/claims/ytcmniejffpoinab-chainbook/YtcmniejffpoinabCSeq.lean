/- A chain's sequence: the contract of what All hands out; epochs: a walk. -/
import Derived.RangeFuncNested
import Derived.RangeFuncBound
import Derived.RangeFuncCalls
import Derived.RangeFuncLeaves
import Derived.RangeFuncBox
import Derived.Shelf.Abstract
import Derived.Shelf.RegionOpen
import Derived.OwnWalkIn
import Derived.TacticsInMore
import Derived.LoopNIn
import Derived.LoopIn
import Derived.Maps.AppendAt
import Derived.Test.YtcmniejffpoinabCKnown
import Derived.Test.YtcmniejffpoinabCInts
namespace Go.Proofs.Ytcmniejffpoinab
open Go.RowKit Go.Shelf

attribute [local go_sem] Oper.semAt_some

/-- Right versions, as a type: what a round is handed. -/
abbrev VO := { x : Vn // x.ok }
/-- What a round is handed. -/
def encV (x : VO) : Array Value := #[.int .i64 x.1.e, .bool x.1.t]
def vals (l : List VO) : List Vn := l.map (·.1)
theorem vals_length (l : List VO) : (vals l).length = l.length := List.length_map ..
theorem vals_snoc (l : List VO) (x : VO) : vals (l ++ [x]) = vals l ++ [x.1] := by simp [vals]
/-- A right chain's versions as such. -/
theorem lift_vo {L : List Vn} (h : ∀ x ∈ L, x.ok) : ∃ Ls : List VO, vals Ls = L := by
  induction L with
  | nil => exact ⟨[], rfl⟩
  | cons x L ih =>
    obtain ⟨Ls, e⟩ := ih (fun y hy => h y (List.mem_cons_of_mem _ hy))
    exact ⟨⟨x, h x (by simp)⟩ :: Ls, by show x :: vals Ls = x :: L; rw [e]⟩
theorem vo_get {Ls : List VO} {k : Nat} {x : VO} (h : Ls[k]? = some x) : (vals Ls).getD k z0 = x.1 := by simp [vals, List.getD, h]
theorem vo_take {Ls : List VO} {k : Nat} {x : VO} (h : Ls[k]? = some x) : Ls.take (k + 1) = Ls.take k ++ [x] := by rw [List.take_add_one, h]; rfl

/-- What a round must keep: the stamps. -/
def KS (N S : Nat) (L : List Vn) (A C : World) : Prop := Sq A N S L → Sq C N S L
theorem Sq.alloc {W : World} {N S : Nat} {L : List Vn} (h : Sq W N S L) (o : Obj) : Sq (W.alloc o) N S L := h.fr (alloc_fr W o (fun _ => False)) (fun h => h) (fun h => h)
theorem Sq.putObj {W : World} {N S l : Nat} {L : List Vn} {o : Obj} (h : Sq W N S L) (o' : Obj) (hl : W.heap[l]? = some o) (ho : o.isCells = false) : Sq (W.putObj l o') N S L := by
  have hg := grownBy_putObj' W l o'
  have hf : Fr W (W.putObj l o') (fun k => k = l) := (Fr.refl W (fun k => k = l)).grown hg (fun k _ e => by cases e; rfl)
  obtain ⟨cs, hcs⟩ := h.blk
  refine h.fr hf (fun e => ?_) (fun e => ?_)
  · subst e
    rw [h.cell] at hl
    cases hl
    cases ho
  · subst e
    rw [hcs] at hl
    cases hl
    cases ho

set_option maxRecDepth 100000 in
set_option maxHeartbeats 2000000 in
theorem seq_in (F : Fence) (n : Nat) (h7 : F.fn 20) (hro : F.round = none) (hn : 1 ≤ n) (l N S : Nat) (Ls : List VO) (J Jx : List VO → World → Prop)
    (hY : ∀ pre x W, J pre W → pre.length < Ls.length → YieldAt F (n - 1) Try.prog l (encV x) W fun e W' =>
      (e = .returned (.bool true) ∧ J (pre ++ [x]) W' ∧ KS N S (vals Ls) W W') ∨ (e = .returned (.bool false) ∧ Jx (pre ++ [x]) W'))
    (W : World) (hJa : AbidesFrom W.heap.size J) (hq : Sq W N S (vals Ls)) (h0 : J [] W) :
    CallsIn F n Try.prog 20 #[.func (.yield l) #[] #[], .pointer (some ⟨N, 0, none⟩)] W fun e W' => (∃ v, e = .returned v) ∧
      ((∃ ys, ys = Ls ∧ J ys W') ∨ (∃ pre, pre <+: Ls ∧ Jx pre W')) := by
  have hc := cell_of_one hq.cell
  have HQ := hid hq
  have hlen : (vals Ls).length = Ls.length := vals_length Ls
  have hlb := hq.len
  rw [hlen] at hc hlb
  have hNl : N < W.heap.size := lt_of_block hq.cell
  refine callsIn_of_wp Try.func20 rfl h7 ?_ hro
  simp only [Try.ntmps20, List.size_toArray, List.length_cons, List.length_nil, Nat.reduceAdd, Nat.reduceSub, Array.replicate_succ, Array.replicate_zero, List.push_toArray, List.append_toArray, List.nil_append, List.cons_append]
  gi_wp2
  gi_loopw [7] (fun i wr => ∃ k : Nat, k ≤ Ls.length ∧ i = .int .i64 k ∧ J (Ls.take k) wr ∧ Sq wr N S (vals Ls))
    (fun i _ => Ls.length - (intOf i).toNat)
  case atStart => exact ⟨0, Nat.zero_le _, rfl, h0, HQ.out⟩
  case round =>
    obtain ⟨k, hk, rfl, hJs, hnx⟩ := hrel
    by_cases hlt : k < Ls.length
    · obtain ⟨x, hx⟩ : ∃ x, Ls[k]? = some x := ⟨_, List.getElem?_eq_getElem hlt⟩
      have hg := vo_get hx
      obtain ⟨d0, d1⟩ := hnx.row k (by rw [hlen]; exact hlt)
      rw [hg] at d0 d1
      have hSl : S < wr.heap.size := World.block_lt_of_cell? wr _ d0
      have hJ1 : J (Ls.take k) (wr.alloc (.cells #[.int .i64 x.1.e, .bool x.1.t] 46)) := hJa _ _ _ none hJs (World.grownBy_alloc wr _ none) (fun r e => by cases e)
      obtain ⟨fn, tmps, assign, body, hy, hR⟩ := hY _ x _ hJ1 (by rw [List.length_take]; omega)
      have t1 : (k : Int) < (Ls.length : Int) := by omega
      unfold encV at hy
      have HB := hid (hnx.alloc (.cells #[.int .i64 x.1.e, .bool x.1.t] 46))
      clear hnx
      have HT := hid (vo_take hx)
      clear hx
      gi_wp2
      refine hR.mono ?_
      rintro e W3 (⟨rfl, hJ3, hk3⟩ | ⟨rfl, hJx3⟩)
      · gi_wp2
        go_roundw
        case rel => exact ⟨k + 1, by omega, by simp, by rw [HT.out]; exact hJ3, hk3 HB.out⟩
        case measure => simp [intOf]; omega
      · gi_wp2
        refine bodyPost_ret (results_none rfl _ _ _) rfl ?_
        exact ⟨⟨_, rfl⟩, .inr ⟨_, ⟨Ls.drop (k + 1), by rw [← HT.out, List.take_append_drop]⟩, hJx3⟩⟩
    · have t1 : ¬ (k : Int) < (Ls.length : Int) := by omega
      have HE := hid (show k = Ls.length by omega)
      gi_wp2
      go_end0
      refine ⟨⟨_, rfl⟩, .inl ?_⟩
      have := hJs
      rw [HE.out, List.take_length] at this
      exact this

/-- What All hands out: all of the stamps, in their order, or a front of them. -/
theorem seq_stops (F : Fence) (n : Nat) (h7 : F.fn 20) (hro : F.round = none) (hn : 1 ≤ n) (N S : Nat) (Ls : List VO) (w : World) (hq : Sq w N S (vals Ls)) :
    SeqStopsK F n Try.prog 20 #[.pointer (some ⟨N, 0, none⟩)] encV (KS N S (vals Ls)) (fun ys => ys = Ls) (fun pre => pre <+: Ls) Ls.length w := fun l J Jx W hW hJa _ hY h0 =>
  seq_in F n h7 hro hn l N S Ls J Jx hY W hJa (hq.fr (Fr.ofBelow hW : Fr w W (fun _ => False)) (fun h => h) (fun h => h)) h0

/-- A round that appends to a boxed slice of numbers keeps the stamps. -/
theorem ks_append {W w1 : World} {N S Bx n₀ k : Nat} {L : List Vn} {u u' : Value} {xs : List Value} {tmp : Obj} (hv : Boxed W Bx 22 u) (hrow : W.ownsRow n₀ 3 1 u k xs) (hgrow : (W.alloc tmp).grownBy w1 u.ownBlock) : KS N S L W (w1.setCell ⟨Bx, 0, none⟩ u') := by
  intro hz
  obtain ⟨cs, hcs⟩ := hz.blk
  have hbx : W.heap[Bx]? = some (.cells #[u] 22 (0, 0)) := hv
  have hf : Fr W (w1.setCell ⟨Bx, 0, none⟩ u') (fun k => k = Bx ∨ u.ownBlock = some k) := ((alloc_fr W tmp (fun k => k = Bx ∨ u.ownBlock = some k)).grown hgrow (fun k _ e => Or.inr e)).setCell (p := ⟨Bx, 0, none⟩) (fun _ => Or.inl rfl) _
  refine hz.fr hf (fun e => ?_) (fun e => ?_)
  · rcases e with e | e
    · subst e
      have := hz.cell.symm.trans hbx
      simp at this
    · exact own_ne hrow hz.cell (by decide) e
  · rcases e with e | e
    · subst e
      have := hcs.symm.trans hbx
      simp at this
    · exact own_ne hrow hcs (by decide) e

theorem holds_own {β : Type} (n₀ B : Nat) (f : β → List Int) : Own (fun s W => ∃ u, Boxed W B 22 u ∧ W.ownsRow n₀ 3 1 u (f s).length (iv (f s))) := by
  intro s X Y row h hg hr
  obtain ⟨u, h1, h2⟩ := h
  obtain ⟨u', a, b, _⟩ := holdsRow_own n₀ B 22 3 1 (fun s => (f s).length) (fun s => iv (f s)) (fun _ _ => True) s X Y row ⟨u, h1, h2, trivial⟩ hg hr
  exact ⟨u', a, b⟩

end Go.Proofs.Ytcmniejffpoinab
