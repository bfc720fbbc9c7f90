/- EpochSets: maps from numbers to bools, a map of such maps, and the book beside them. -/
import Derived.Test.YtimefcmemklhpaaESetP
import Derived.Test.YtimefcmemklhpaaEMi
import Derived.Test.YtimefcmemklhpaaELives1
namespace Go.Proofs.Ytimefcmemklhpaa.E
open Go.RowKit Go.Maps Go.MuLone

theorem zeroB (w : World) : (zeroValue 4).run Try.prog w = .ok (.bool false) w := by kernel_rfl
theorem zeroM (w : World) : (zeroValue 49).run Try.prog w = .ok (.map none) w := by kernel_rfl
theorem plainB (x : Bool) : plainElem (H := Unit) Try.prog 4 (.bool x) = some (.lit (.bool x), []) := plainElem_bool Try.underlying4 x
theorem plainB_inv {v : Value} {z : DataW Unit × List MemPlace} (h : plainElem Try.prog 4 v = some z) : ∃ c, v = .bool c ∧ z = (.lit (.bool c), []) := by
  unfold plainElem at h
  rw [show Try.prog.underlying 4 = some .bool from Try.underlying4] at h
  cases v <;> simp at h
  exact ⟨_, rfl, h.symm⟩

/-- Block b is a map whose keys are the list's; each is true. -/
def Mb (w : World) (b : Nat) (l : List Int) : Prop := ∃ D : DataW Unit, w.ownsMap Try.prog 3 (plainElem Try.prog 4) b l.length D ∧ (∀ x, Maps.has D (.int .i64 x) = hasB l x) ∧ (∀ x, D.atKey (.int .i64 x) (.lit (.bool false)) = .lit (.bool (hasB l x))) ∧ Maps.size D = l.length
theorem Mb.lt {w : World} {b : Nat} {l : List Int} (h : Mb w b l) : b < w.heap.size := by obtain ⟨D, h, _⟩ := h; exact h.lt
theorem Mb.at {w w' : World} {b : Nat} {l : List Int} (h : Mb w b l) (hb : w'.heap[b]? = w.heap[b]?) : Mb w' b l := by
  obtain ⟨D, ⟨es, c, h1, r⟩, h2⟩ := h
  exact ⟨D, ⟨es, c, hb.trans h1, r⟩, h2⟩
theorem Mb.fr {w w' : World} {S : Nat → Prop} {b : Nat} {l : List Int} (h : Mb w b l) (hf : Fr w w' S) (hS : ¬ S b) : Mb w' b l := h.at (hf.block b h.lt hS)
theorem Mb.kb {w : World} {b : Nat} {l : List Int} (h : Mb w b l) : KB w b := by
  obtain ⟨D, ⟨es, c, h1, r⟩, h2⟩ := h
  exact Or.inr ⟨es, c, h1⟩
theorem Mb.new (w : World) : Mb (w.alloc (.map #[] 0)) w.heap.size [] := ⟨.map [], World.ownsMap_made w _ _ _, fun x => by simp [Maps.has, hasB], fun x => by simp [hasB]; rfl, rfl⟩
theorem tightB {w : World} {b n : Nat} {D : DataW Unit} (h : w.ownsMap Try.prog 3 (plainElem Try.prog 4) b n D) : w.ownsMap Try.prog 3 (plainElem Try.prog 4) b (Maps.size D) D := by
  obtain ⟨es, c, h1, h2, h3, rfl⟩ := h
  exact ⟨es, c, h1, h2, by simp [Maps.size, length_sorted], rfl⟩
theorem Mb.len {w : World} {b : Nat} {l : List Int} (h : Mb w b l) (ty : TypeId) : (Builtin.len_ #[49] ty #[.map (some b)]).run Try.prog w = .ok (.int .i64 (l.length : Int)) w := by
  obtain ⟨D, h1, h2, h3, h4⟩ := h
  rw [h1.len Try.underlying49 ty, h4]
theorem Mb.look {w : World} {b : Nat} {l : List Int} (h : Mb w b l) {e : Int} (hw : (Lit.int .i64 e).wf = true) : (Instr.lookup 49 (.map (some b)) (.int .i64 e) false).run Try.prog w = .ok (.bool (hasB l e)) w := by
  obtain ⟨D, h1, h2, h3, h4⟩ := h
  obtain ⟨v, ps, hrun, hv⟩ := h1.lookup law Try.underlying49 (zeroB w) (plainB false) (keyI hw)
  obtain ⟨c, rfl, e'⟩ := plainB_inv hv
  rw [h3 e] at e'
  have : hasB l e = c := by simp at e'; exact e'.1
  rw [hrun, this]
theorem look_none (w : World) {e : Int} (hw : (Lit.int .i64 e).wf = true) : (Instr.lookup 49 (.map none) (.int .i64 e) false).run Try.prog w = .ok (.bool false) w :=
  Maps.look_nil false law Try.underlying49 (zeroB w) (keyI hw)
theorem wpl_mb {w : World} {ops : Array Oper} {rest : List Oper} {o : Oper} {a : Act} {Q : Exit → Act → World → Prop} (hg : o.guard = none) (m x v : Operand) (hop : o.op = Op.mapUpdate 49 m x v)
    (b : Nat) (l : List Int) (e : Int) (hm : a.eval m = .map (some b)) (hx : a.eval x = .int .i64 e) (hv : a.eval v = .bool true) (h : Mb w b l) (hr : Ri l) (hn : l.length < maxLen) (hwe : fits e)
    (hK : ∀ w', Mb w' b (ins e l) → w.grownBy w' (some b) → wpList Try.prog ops Q rest (a.put o.dst undef) w') : wpList Try.prog ops Q (o :: rest) a w := by
  obtain ⟨D, h1, h2, h3, h4⟩ := h
  have ht := h1.tidy law
  refine wpList_mapUpdate_own w hg m x v 49 hop 3 4 law Try.underlying49 _ b l.length D hm h1 hn _ _ (.int .i64 e) hx hv (keyI (fits_wf hwe)) _ [] (plainB true) ?_
  intro w' hown hgr
  have hsz : Maps.size (D.put (.int .i64 e) (.lit (.bool true))) = (ins e l).length := by
    rw [size_put ht, h2, ins_len hr, h4]
    by_cases hm : e ∈ l <;> simp [hasB, hm]
  refine hK w' ⟨_, ?_, fun y => ?_, fun y => ?_, hsz⟩ hgr
  · rw [← hsz]; exact tightB hown
  · by_cases hy : y = e
    · subst hy
      rw [has_put_same (k := .int .i64 y) h1.isMap trivial]
      exact (hasB_true.2 (mem_ins.2 (Or.inl rfl))).symm
    · rw [has_put_other (by intro h; simp at h; exact hy h), h2]
      simp [hasB, mem_ins, hy]
  · by_cases hy : y = e
    · subst hy
      rw [atKey_put_same (k := .int .i64 y) h1.isMap trivial, hasB_true.2 (mem_ins.2 (Or.inl rfl))]
    · rw [atKey_put_other (by intro h; simp at h; exact hy h), h3]
      simp [hasB, mem_ins, hy]
theorem Mb.drop {w : World} {b : Nat} {l : List Int} (h : Mb w b l) (hr : Ri l) {e : Int} (hw : (Lit.int .i64 e).wf = true) (ty : TypeId) :
    ∃ w', (Builtin.delete_ #[49, 3] ty #[.map (some b), .int .i64 e]).run Try.prog w = .ok (.tuple #[]) w' ∧ Mb w' b (del e l) ∧ w.grownBy w' (some b) := by
  obtain ⟨D, h1, h2, h3, h4⟩ := h
  have ht := h1.tidy law
  obtain ⟨w', hrun, hown, hg⟩ := h1.drop law Try.underlying49 (keyI hw) ty
  have hsz : Maps.size (D.del (.int .i64 e)) = (del e l).length := by
    have a := size_del ht (k := .int .i64 e)
    have c := del_len (e := e) hr
    rw [h2, h4] at a
    by_cases hm : e ∈ l <;> simp [hasB, hm] at a c <;> omega
  refine ⟨w', hrun, ⟨_, ?_, fun x => ?_, fun x => ?_, hsz⟩, hg.grown⟩
  · rw [← hsz]; exact tightB hown
  · by_cases hx : x = e
    · subst hx
      rw [has_del_same]
      exact (hasB_false.2 (by simp [mem_del])).symm
    · rw [has_del_other (by intro h; simp at h; exact hx h), h2]
      simp [hasB, mem_del, hx]
  · by_cases hx : x = e
    · subst hx
      rw [atKey_del_same, hasB_false.2 (by simp [mem_del])]
    · rw [atKey_del_other (by intro h; simp at h; exact hx h), h3]
      simp [hasB, mem_del, hx]

/-! A map of maps. -/
def encM : Option Nat → Int
  | none => -1
  | some b => (b : Int)
theorem encM_inj {a b : Option Nat} (h : encM a = encM b) : a = b := by
  cases a <;> cases b <;> simp only [encM] at h
  · rfl
  · omega
  · omega
  · exact congrArg some (by omega)
/-- How a map reads: as its block's number. -/
def readM : Value → Option (DataW Unit × List MemPlace)
  | .map m => some (.lit (.int .i64 (encM m)), [])
  | _ => none
theorem readM_inv {v : Value} {z : DataW Unit × List MemPlace} (h : readM v = some z) : ∃ m, v = .map m ∧ z = (.lit (.int .i64 (encM m)), []) := by
  cases v <;> simp [readM] at h
  exact ⟨_, rfl, h.symm⟩
def MM (w : World) (b n : Nat) (f : Int → Option Nat) : Prop := ∃ D : DataW Unit, w.ownsMap Try.prog 3 readM b n D ∧ IsMap D ∧ ∀ x, D.atKey (.int .i64 x) (.lit (.int .i64 (-1))) = .lit (.int .i64 (encM (f x)))
theorem MM.lt {w : World} {b n : Nat} {f : Int → Option Nat} (h : MM w b n f) : b < w.heap.size := by obtain ⟨D, h, _⟩ := h; exact h.lt
theorem MM.at {w w' : World} {b n : Nat} {f : Int → Option Nat} (h : MM w b n f) (hb : w'.heap[b]? = w.heap[b]?) : MM w' b n f := by
  obtain ⟨D, ⟨es, c, h1, r⟩, h2⟩ := h
  exact ⟨D, ⟨es, c, hb.trans h1, r⟩, h2⟩
theorem MM.fr {w w' : World} {S : Nat → Prop} {b n : Nat} {f : Int → Option Nat} (h : MM w b n f) (hf : Fr w w' S) (hS : ¬ S b) : MM w' b n f := h.at (hf.block b h.lt hS)
theorem MM.kb {w : World} {b n : Nat} {f : Int → Option Nat} (h : MM w b n f) : KB w b := by
  obtain ⟨D, ⟨es, c, h1, r⟩, h2⟩ := h
  exact Or.inr ⟨es, c, h1⟩
theorem MM.new (w : World) : MM (w.alloc (.map #[] 0)) w.heap.size 0 (fun _ => none) := ⟨.map [], World.ownsMap_made w _ _ _, ⟨_, rfl⟩, fun _ => rfl⟩
theorem MM.eq {w : World} {b n : Nat} {f g : Int → Option Nat} (h : MM w b n f) (e : ∀ x, f x = g x) : MM w b n g := by
  rwa [show g = f from funext (fun x => (e x).symm)]
theorem MM.look {w : World} {b n : Nat} {f : Int → Option Nat} (h : MM w b n f) {e : Int} (hw : (Lit.int .i64 e).wf = true) : (Instr.lookup 48 (.map (some b)) (.int .i64 e) false).run Try.prog w = .ok (.map (f e)) w := by
  obtain ⟨D, h1, h2, h3⟩ := h
  obtain ⟨v, ps, hrun, hv⟩ := h1.lookup law Try.underlying48 (zeroM w) (R := readM) (zd := .lit (.int .i64 (-1))) (zp := []) rfl (keyI hw)
  obtain ⟨m, rfl, e'⟩ := readM_inv hv
  rw [h3 e] at e'
  have : encM (f e) = encM m := by simp at e'; exact e'.1
  rw [hrun, encM_inj this]
def updM (f : Int → Option Nat) (e : Int) (v : Option Nat) : Int → Option Nat := fun x => if x = e then v else f x
theorem wpl_mm {w : World} {ops : Array Oper} {rest : List Oper} {o : Oper} {a : Act} {Q : Exit → Act → World → Prop} (hg : o.guard = none) (m x v : Operand) (hop : o.op = Op.mapUpdate 48 m x v)
    (b n : Nat) (f : Int → Option Nat) (e : Int) (val : Option Nat) (hm : a.eval m = .map (some b)) (hx : a.eval x = .int .i64 e) (hv : a.eval v = .map val) (h : MM w b n f) (hn : n < maxLen) (hwe : fits e)
    (hK : ∀ w', MM w' b (n + 1) (updM f e val) → w.grownBy w' (some b) → wpList Try.prog ops Q rest (a.put o.dst undef) w') : wpList Try.prog ops Q (o :: rest) a w := by
  obtain ⟨D, h1, h2, h3⟩ := h
  refine wpList_mapUpdate_own w hg m x v 48 hop 3 49 law Try.underlying48 _ b n D hm h1 hn _ _ (.int .i64 e) hx hv (keyI (fits_wf hwe)) (.lit (.int .i64 (encM val))) [] rfl ?_
  intro w' hown hgr
  refine hK w' ⟨_, hown, hown.isMap, fun y => ?_⟩ hgr
  by_cases hy : y = e
  · subst hy
    rw [atKey_put_same (k := .int .i64 y) h2 trivial]
    simp [updM]
  · rw [atKey_put_other (by intro h; simp at h; exact hy h), h3]
    simp [updM, hy]

/-! The book and the law's own maps. -/
/-- May it be an owner? -/
abbrev Ow (i : Nat) : Prop := 1 ≤ i ∧ i ≤ 64
def fS (sM : Nat → Nat) (x : Int) : Option Nat := if 1 ≤ x ∧ x ≤ 64 then some (sM x.toNat) else none
def fJ (v : Nat → Int) (x : Int) : Int := if 1 ≤ x ∧ x ≤ 64 then v x.toNat else 0
theorem fS_in {sM : Nat → Nat} {i : Nat} (h : Ow i) : fS sM (i : Int) = some (sM i) := by unfold fS; rw [if_pos (by omega)]; rfl
theorem fJ_in {v : Nat → Int} {i : Nat} (h : Ow i) : fJ v (i : Int) = v i := by unfold fJ; rw [if_pos (by omega)]; rfl
theorem fS_out {sM : Nat → Nat} {x : Int} (h : ¬ (1 ≤ x ∧ x ≤ 64)) : fS sM x = none := if_neg h
theorem fJ_out {v : Nat → Int} {x : Int} (h : ¬ (1 ≤ x ∧ x ≤ 64)) : fJ v x = 0 := if_neg h
theorem fS_upd {sM : Nat → Nat} {i : Nat} (h : Ow i) (k : Nat) (x : Int) : updM (fS sM) (i : Int) (some k) x = fS (upd sM i k) x := by
  unfold updM fS
  by_cases e : x = (i : Int)
  · subst e
    rw [if_pos rfl, if_pos (by omega)]
    simp [upd]
  · rw [if_neg e]
    by_cases e2 : 1 ≤ x ∧ x ≤ 64
    · rw [if_pos e2, if_pos e2, upd_other _ _ (by omega)]
    · rw [if_neg e2, if_neg e2]
theorem fJ_upd {v : Nat → Int} {i : Nat} (h : Ow i) (k : Int) (x : Int) : updI (fJ v) (i : Int) k x = fJ (upd v i k) x := by
  unfold updI fJ
  by_cases e : x = (i : Int)
  · subst e
    rw [if_pos rfl, if_pos (by omega)]
    simp [upd]
  · rw [if_neg e]
    by_cases e2 : 1 ≤ x ∧ x ≤ 64
    · rw [if_pos e2, if_pos e2, upd_other _ _ (by omega)]
    · rw [if_neg e2, if_neg e2]

/-- The book at B, the map of maps at M, the sets' maps at sM, the inner ones at J: all of the call's own, all apart. -/
structure SxM (w W : World) (B M J : Nat) (m : Nat → Option Nat) (sM : Nat → Nat) (b : Bo) (l : Nat → List Int) (v : Nat → Int) (n n' : Nat) : Prop where
  bk : Bk W 0 B m b
  mm : MM W M n (fS sM)
  mi : Mi W J n' (fJ v)
  mb : ∀ i, Ow i → Mb W (sM i) (l i)
  hB : ∀ k, ow B m k → w.heap.size ≤ k ∧ k ≠ M ∧ k ≠ J ∧ ∀ i, Ow i → k ≠ sM i
  hM : w.heap.size ≤ M ∧ M ≠ J ∧ ∀ i, Ow i → M ≠ sM i
  hJ : w.heap.size ≤ J ∧ ∀ i, Ow i → J ≠ sM i
  hS : ∀ i, Ow i → w.heap.size ≤ sM i
  inj : ∀ i k, Ow i → Ow k → sM i = sM k → i = k
  fr : Fr w W (fun _ => False)
def Sx (w W : World) (B M J : Nat) (sM : Nat → Nat) (b : Bo) (l : Nat → List Int) (v : Nat → Int) (n n' : Nat) : Prop := ∃ m, SxM w W B M J m sM b l v n n'

section
variable {w W W' : World} {B M J n n' : Nat} {sM : Nat → Nat} {b b' : Bo} {l : Nat → List Int} {v : Nat → Int}
theorem Sx.fr (h : Sx w W B M J sM b l v n n') : Fr w W (fun _ => False) := by obtain ⟨m, h⟩ := h; exact h.fr
theorem Sx.wf (h : Sx w W B M J sM b l v n n') : Wf b := by obtain ⟨m, h⟩ := h; exact h.bk.wf
theorem Sx.mm (h : Sx w W B M J sM b l v n n') : MM W M n (fS sM) := by obtain ⟨m, h⟩ := h; exact h.mm
theorem Sx.mi (h : Sx w W B M J sM b l v n n') : Mi W J n' (fJ v) := by obtain ⟨m, h⟩ := h; exact h.mi
theorem Sx.mb (h : Sx w W B M J sM b l v n n') {i : Nat} (hi : Ow i) : Mb W (sM i) (l i) := by obtain ⟨m, h⟩ := h; exact h.mb i hi
theorem Sx.step (h : Sx w W B M J sM b l v n n') (hf : Fr W W' (fun _ => False)) : Sx w W' B M J sM b l v n n' := by
  obtain ⟨m, h⟩ := h
  exact ⟨m, h.bk.step hf, h.mm.fr hf (fun h => h), h.mi.fr hf (fun h => h), fun i hi => (h.mb i hi).fr hf (fun h => h), h.hB, h.hM, h.hJ, h.hS, h.inj, h.fr.trans hf⟩
theorem Sx.eq (h : Sx w W B M J sM b l v n n') {l2 : Nat → List Int} {v2 : Nat → Int} (el : ∀ i, Ow i → l i = l2 i) (ev : ∀ i, Ow i → v i = v2 i) : Sx w W B M J sM b l2 v2 n n' := by
  obtain ⟨m, h⟩ := h
  refine ⟨m, h.bk, h.mm, h.mi.eq (fun x => ?_), fun i hi => by rw [← el i hi]; exact h.mb i hi, h.hB, h.hM, h.hJ, h.hS, h.inj, h.fr⟩
  unfold fJ
  by_cases e : 1 ≤ x ∧ x ≤ 64
  · rw [if_pos e, if_pos e]; exact ev _ (by unfold Ow; omega)
  · rw [if_neg e, if_neg e]
theorem Sx.ask (h : Sx w W B M J sM b l v n n') {fn : Nat} {args : Array Value} {R : Ending → World → Prop} (hc : ∀ m, Bk W 0 B m b → Calls Try.prog fn args W R) : Calls Try.prog fn args W R := by
  obtain ⟨m, h⟩ := h
  exact hc m h.bk
/-- The book is turned. -/
theorem Sx.run (h : Sx w W B M J sM b l v n n') {fn : Nat} {args : Array Value} {r : Value} (hc : ∀ m, Bk W 0 B m b → Calls Try.prog fn args W fun x w' => x = .returned r ∧ Lf W w' B m b') :
    Calls Try.prog fn args W fun x w' => x = .returned r ∧ Sx w w' B M J sM b' l v n n' ∧ Fr W w' (KB W) := by
  obtain ⟨m, h⟩ := h
  refine (hc m h.bk).mono ?_
  rintro x w' ⟨hx, m', hb, hf, how⟩
  refine ⟨hx, ⟨m', hb, h.mm.fr hf (fun k => (h.hB _ k).2.1 rfl), h.mi.fr hf (fun k => (h.hB _ k).2.2.1 rfl), fun i hi => (h.mb i hi).fr hf (fun k => (h.hB _ k).2.2.2 i hi rfl), fun k hk => ?_, h.hM, h.hJ, h.hS, h.inj, h.fr.trans2 hf (fun k hk e => by have := (h.hB k e).1; omega)⟩, hf.mono (fun k _ hk => ow_kb h.bk hk)⟩
  rcases how k hk with h' | h'
  · exact h.hB k h'
  · refine ⟨Nat.le_trans h.fr.size h', fun e => ?_, fun e => ?_, fun i hi e => ?_⟩
    · have := h.mm.lt; omega
    · have := h.mi.lt; omega
    · have := (h.mb i hi).lt; omega
/-- A set is written. -/
theorem Sx.put (h : Sx w W B M J sM b l v n n') {i : Nat} (hi : Ow i) {L : List Int} (hm : Mb W' (sM i) L) (hg : W.grownBy W' (some (sM i))) : Sx w W' B M J sM b (upd l i L) v n n' ∧ Fr W W' (KB W) := by
  obtain ⟨m, h⟩ := h
  have hf : Fr W W' (fun k => k = sM i) := (Fr.refl W _).grown hg (fun k _ e => by cases e; rfl)
  refine ⟨⟨m, h.bk.fr hf (fun k hk e => (h.hB k hk).2.2.2 i hi e), h.mm.fr hf (fun e => h.hM.2.2 i hi e), h.mi.fr hf (fun e => h.hJ.2 i hi e), fun j hj => ?_, h.hB, h.hM, h.hJ, h.hS, h.inj, h.fr.trans2 hf (fun k hk e => by have := h.hS i hi; omega)⟩, hf.mono (fun k _ e => by rw [e]; exact (h.mb i hi).kb)⟩
  by_cases e : j = i
  · subst e; rw [upd_same]; exact hm
  · rw [upd_other _ _ e]; exact (h.mb j hj).fr hf (fun e' => e (h.inj j i hj hi e'))
/-- The inner ones are written. -/
theorem Sx.putJ (h : Sx w W B M J sM b l v n n') {v2 : Nat → Int} {n2 : Nat} (hm : Mi W' J n2 (fJ v2)) (hg : W.grownBy W' (some J)) : Sx w W' B M J sM b l v2 n n2 ∧ Fr W W' (KB W) := by
  obtain ⟨m, h⟩ := h
  have hf : Fr W W' (fun k => k = J) := (Fr.refl W _).grown hg (fun k _ e => by cases e; rfl)
  exact ⟨⟨m, h.bk.fr hf (fun k hk e => (h.hB k hk).2.2.1 e), h.mm.fr hf (fun e => h.hM.2.1 e), hm, fun j hj => (h.mb j hj).fr hf (fun e => h.hJ.2 j hj e.symm), h.hB, h.hM, h.hJ, h.hS, h.inj, h.fr.trans2 hf (fun k hk e => by have := h.hJ.1; omega)⟩, hf.mono (fun k _ e => by rw [e]; exact h.mi.kb)⟩
/-- A set is made anew: its map is the newest block. -/
theorem Sx.make (h : Sx w W B M J sM b l v n n') {i : Nat} (hi : Ow i) {Wn : World} {n2 : Nat} (ha : Wn = W.alloc (.map #[] 0)) (hm : MM W' M n2 (fS (upd sM i W.heap.size))) (hg : Wn.grownBy W' (some M)) :
    Sx w W' B M J (upd sM i W.heap.size) b (upd l i []) v n2 n' ∧ Fr W W' (KB W) := by
  obtain ⟨m, h⟩ := h
  subst ha
  have hf0 : Fr W (W.alloc (.map #[] 0)) (fun _ => False) := alloc_fr _ _ _
  have hf1 : Fr (W.alloc (.map #[] 0)) W' (fun k => k = M) := (Fr.refl _ _).grown hg (fun k _ e => by cases e; rfl)
  have hf : Fr W W' (fun k => k = M) := (hf0.mono (fun _ _ h => h.elim)).trans hf1
  have hMl := h.mm.lt
  have hJl := h.mi.lt
  refine ⟨⟨m, h.bk.fr hf (fun k hk e => (h.hB k hk).2.1 e), hm, h.mi.fr hf (fun e => h.hM.2.1 e.symm), fun j hj => ?_, fun k hk => ?_, ⟨h.hM.1, h.hM.2.1, fun j hj => ?_⟩, ⟨h.hJ.1, fun j hj => ?_⟩, fun j hj => ?_, fun j k hj hk e => ?_, h.fr.trans2 hf (fun k hk e => by have := h.hM.1; omega)⟩, hf.mono (fun k _ e => by rw [e]; exact h.mm.kb)⟩
  · by_cases e : j = i
    · subst e; rw [upd_same, upd_same]; exact (Mb.new W).fr hf1 (by omega)
    · rw [upd_other _ _ e, upd_other _ _ e]; exact (h.mb j hj).fr hf (fun e' => h.hM.2.2 j hj e'.symm)
  · obtain ⟨q1, q2, q3, q4⟩ := h.hB k hk
    refine ⟨q1, q2, q3, fun j hj => ?_⟩
    by_cases e : j = i
    · subst e; rw [upd_same]; have := h.bk.ow_lt hk; omega
    · rw [upd_other _ _ e]; exact q4 j hj
  · by_cases e : j = i
    · subst e; rw [upd_same]; omega
    · rw [upd_other _ _ e]; exact h.hM.2.2 j hj
  · by_cases e : j = i
    · subst e; rw [upd_same]; omega
    · rw [upd_other _ _ e]; exact h.hJ.2 j hj
  · by_cases e : j = i
    · subst e; rw [upd_same]; exact h.fr.size
    · rw [upd_other _ _ e]; exact h.hS j hj
  · by_cases ej : j = i
    · by_cases ek : k = i
      · rw [ej, ek]
      · rw [ej, upd_same, upd_other _ _ ek] at e
        have := (h.mb k hk).lt; omega
    · by_cases ek : k = i
      · rw [ek, upd_same, upd_other _ _ ej] at e
        have := (h.mb j hj).lt; omega
      · rw [upd_other _ _ ek, upd_other _ _ ej] at e
        exact h.inj j k hj hk e
end

/-- While the sets' maps are made: those of owners 1 to k stand. -/
structure SmM (w W : World) (B M J : Nat) (m : Nat → Option Nat) (sM : Nat → Nat) (b : Bo) (k : Nat) : Prop where
  bk : Bk W 0 B m b
  mm : MM W M k (fun x => if 1 ≤ x ∧ x ≤ (k : Int) then some (sM x.toNat) else none)
  mi : Mi W J 0 (fun _ => 0)
  mb : ∀ i, 1 ≤ i → i ≤ k → Mb W (sM i) []
  hB : ∀ x, ow B m x → w.heap.size ≤ x ∧ x ≠ M ∧ x ≠ J ∧ ∀ i, 1 ≤ i → i ≤ k → x ≠ sM i
  hM : w.heap.size ≤ M ∧ M ≠ J ∧ ∀ i, 1 ≤ i → i ≤ k → M ≠ sM i
  hJ : w.heap.size ≤ J ∧ ∀ i, 1 ≤ i → i ≤ k → J ≠ sM i
  hS : ∀ i, 1 ≤ i → i ≤ k → w.heap.size ≤ sM i
  inj : ∀ i j, 1 ≤ i → i ≤ k → 1 ≤ j → j ≤ k → sM i = sM j → i = j
  fr : Fr w W (fun _ => False)
def Sm (w W : World) (B M J : Nat) (sM : Nat → Nat) (b : Bo) (k : Nat) : Prop := ∃ m, SmM w W B M J m sM b k
theorem Sm.fr {w W : World} {B M J : Nat} {sM : Nat → Nat} {b : Bo} {k : Nat} (h : Sm w W B M J sM b k) : Fr w W (fun _ => False) := by obtain ⟨m, h⟩ := h; exact h.fr
theorem Sm.mm {w W : World} {B M J : Nat} {sM : Nat → Nat} {b : Bo} {k : Nat} (h : Sm w W B M J sM b k) : MM W M k (fun x => if 1 ≤ x ∧ x ≤ (k : Int) then some (sM x.toNat) else none) := by obtain ⟨m, h⟩ := h; exact h.mm
theorem Sm.full {w W : World} {B M J : Nat} {sM : Nat → Nat} {b : Bo} (h : Sm w W B M J sM b 64) : Sx w W B M J sM b (fun _ => []) (fun _ => 0) 64 0 := by
  obtain ⟨m, h⟩ := h
  refine ⟨m, h.bk, h.mm, h.mi.eq (fun x => ?_), fun i hi => h.mb i hi.1 hi.2, fun k hk => ?_, ⟨h.hM.1, h.hM.2.1, fun i hi => h.hM.2.2 i hi.1 hi.2⟩, ⟨h.hJ.1, fun i hi => h.hJ.2 i hi.1 hi.2⟩, fun i hi => h.hS i hi.1 hi.2, fun i k hi hk => h.inj i k hi.1 hi.2 hk.1 hk.2, h.fr⟩
  · unfold fJ; split <;> rfl
  · obtain ⟨q1, q2, q3, q4⟩ := h.hB k hk
    exact ⟨q1, q2, q3, fun i hi => q4 i hi.1 hi.2⟩
/-- One more. -/
theorem Sm.make {w W Wn W' : World} {B M J : Nat} {sM : Nat → Nat} {b : Bo} {k : Nat} (h : Sm w W B M J sM b k) (ha : Wn = W.alloc (.map #[] 0))
    (hm : MM W' M (k + 1) (updM (fun x => if 1 ≤ x ∧ x ≤ (k : Int) then some (sM x.toNat) else none) ((k : Int) + 1) (some W.heap.size))) (hg : Wn.grownBy W' (some M)) :
    Sm w W' B M J (upd sM (k + 1) W.heap.size) b (k + 1) := by
  obtain ⟨m, h⟩ := h
  subst ha
  have hf0 : Fr W (W.alloc (.map #[] 0)) (fun _ => False) := alloc_fr _ _ _
  have hf1 : Fr (W.alloc (.map #[] 0)) W' (fun k => k = M) := (Fr.refl _ _).grown hg (fun k _ e => by cases e; rfl)
  have hf : Fr W W' (fun k => k = M) := (hf0.mono (fun _ _ h => h.elim)).trans hf1
  have hMl := h.mm.lt
  have hJl := h.mi.lt
  refine ⟨m, h.bk.fr hf (fun k hk e => (h.hB k hk).2.1 e), hm.eq (fun x => ?_), h.mi.fr hf (fun e => h.hM.2.1 e.symm), fun j h1 h2 => ?_, fun x hx => ?_, ⟨h.hM.1, h.hM.2.1, fun j h1 h2 => ?_⟩, ⟨h.hJ.1, fun j h1 h2 => ?_⟩, fun j h1 h2 => ?_, fun i j h1 h2 h3 h4 e => ?_, h.fr.trans2 hf (fun k hk e => by have := h.hM.1; omega)⟩
  · unfold updM
    by_cases e : x = (k : Int) + 1
    · rw [if_pos e, if_pos (by omega), show x.toNat = k + 1 by omega, upd_same]
    · rw [if_neg e]
      dsimp only
      by_cases e2 : 1 ≤ x ∧ x ≤ (k : Int)
      · rw [if_pos e2, if_pos (by omega), upd_other _ _ (by omega)]
      · rw [if_neg e2, if_neg (by omega)]
  · by_cases e : j = k + 1
    · subst e; rw [upd_same]; exact (Mb.new W).fr hf1 (by omega)
    · rw [upd_other _ _ e]; exact (h.mb j h1 (by omega)).fr hf (fun e' => h.hM.2.2 j h1 (by omega) e'.symm)
  · obtain ⟨q1, q2, q3, q4⟩ := h.hB x hx
    refine ⟨q1, q2, q3, fun j h1 h2 => ?_⟩
    by_cases e : j = k + 1
    · subst e; rw [upd_same]; have := h.bk.ow_lt hx; omega
    · rw [upd_other _ _ e]; exact q4 j h1 (by omega)
  · by_cases e : j = k + 1
    · subst e; rw [upd_same]; omega
    · rw [upd_other _ _ e]; exact h.hM.2.2 j h1 (by omega)
  · by_cases e : j = k + 1
    · subst e; rw [upd_same]; omega
    · rw [upd_other _ _ e]; exact h.hJ.2 j h1 (by omega)
  · by_cases e : j = k + 1
    · subst e; rw [upd_same]; exact h.fr.size
    · rw [upd_other _ _ e]; exact h.hS j h1 (by omega)
  · by_cases ei : i = k + 1
    · by_cases ej : j = k + 1
      · rw [ei, ej]
      · rw [ei, upd_same, upd_other _ _ ej] at e
        have := (h.mb j h3 (by omega)).lt; omega
    · by_cases ej : j = k + 1
      · rw [ej, upd_same, upd_other _ _ ei] at e
        have := (h.mb i h1 (by omega)).lt; omega
      · rw [upd_other _ _ ei, upd_other _ _ ej] at e
        exact h.inj i j h1 (by omega) h3 (by omega) e
theorem Sm.start {w W W' : World} {B : Nat} {m : Nat → Option Nat} {b : Bo} (hf : Fr w W (fun _ => False)) (hb : Bk W' 0 B m b) (hlo : ∀ k, ow B m k → W.heap.size ≤ k) (hf' : Fr W W' (fun _ => False)) :
    Sm w ((W'.alloc (.map #[] 0)).alloc (.map #[] 0)) B W'.heap.size (W'.alloc (.map #[] 0)).heap.size (fun _ => 0) b 0 := by
  have hs : (W'.alloc (.map #[] 0)).heap.size = W'.heap.size + 1 := by simp
  have a1 : Fr W' (W'.alloc (.map #[] 0)) (fun _ => False) := alloc_fr _ _ _
  have a2 : Fr (W'.alloc (.map #[] 0)) ((W'.alloc (.map #[] 0)).alloc (.map #[] 0)) (fun _ => False) := alloc_fr _ _ _
  refine ⟨m, (hb.step a1).step a2, ((MM.new W').fr a2 (fun h => h)).eq (fun x => (if_neg (by omega)).symm), Mi.new _, fun i h1 h2 => by omega, fun x hx => ⟨Nat.le_trans hf.size (hlo x hx), ?_, ?_, fun i h1 h2 => by omega⟩, ⟨Nat.le_trans hf.size hf'.size, by omega, fun i h1 h2 => by omega⟩, ⟨?_, fun i h1 h2 => by omega⟩, fun i h1 h2 => by omega, fun i j h1 h2 => by omega, ((hf.trans hf').trans a1).trans a2⟩
  · have := hb.ow_lt hx; omega
  · have := hb.ow_lt hx; omega
  · have := hf.size; have := hf'.size; omega
end Go.Proofs.Ytimefcmemklhpaa.E
