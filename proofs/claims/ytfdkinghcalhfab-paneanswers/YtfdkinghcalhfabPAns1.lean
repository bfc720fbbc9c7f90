/- The law's apart: what stands, and its walk. -/
import Derived.Test.YtfdkinghcalhfabPOwn2
namespace Go.Proofs.Ytfdkinghcalhfab
open Go.RowKit

/-- A cell of an owned row of whatever values, written. -/
theorem own_setV {w : World} {base : Nat} {e : TypeId} {v : Value} {n : Nat} {vs : List Value} (h : w.ownsRow base e 1 v n vs) {g : Nat} (hg : v.ownBlock = some g) (j : Nat) (u : Value) : (w.setCell ⟨g, j, none⟩ u).ownsRow base e 1 v n (vs.set j u) := by
  have hl := h.1
  rcases h.2 with ⟨rfl, _⟩ | ⟨g', cap, cur, rfl, hb, hh, hn, hm, hs, ht⟩
  · simp [Value.ownBlock] at hg
  · simp [Value.ownBlock] at hg
    subst hg
    have h1 := heap_setCell_same w g' j cur e u hh
    refine ⟨by rw [List.length_set]; exact hl, Or.inr ⟨g', cap, _, rfl, hb, h1, hn, hm, by simpa using hs, ?_⟩⟩
    rw [Array.toList_setIfInBounds, List.take_set, ht]

/-- What was appended: two numbers behind the row; in the row's own block or in a new one, in no other row's. -/
def MoAt (W : World) (base : Nat) (VK : List Value) (n q len : Nat) (M : Value) (m1 m2 : Int) : Prop :=
  ∃ g cap cs, M = .slice (some ⟨g, 0, none⟩) (len + 2) cap ∧ base ≤ g ∧ W.heap[g]? = some (.cells cs 2 (0, 0)) ∧ cs[len]? = some (.int .i64 m1) ∧ cs[len + 1]? = some (.int .i64 m2) ∧ ∀ j, j < n → j ≠ q → (VK.getD j nilV).ownBlock ≠ some g
theorem MoAt.fr {W W' : World} {base : Nat} {VK : List Value} {n q len : Nat} {M : Value} {m1 m2 : Int} (h : MoAt W base VK n q len M m1 m2) {S : Nat → Prop} (hf : Fr W W' S) (hS : ∀ g cap, M = .slice (some ⟨g, 0, none⟩) (len + 2) cap → ¬ S g) : MoAt W' base VK n q len M m1 m2 := by
  obtain ⟨g, cap, cs, hM, hb, hh, h1, h2, h3⟩ := h
  exact ⟨g, cap, cs, hM, hb, by rw [hf.block g (lt_of_block hh) (hS g cap hM)]; exact hh, h1, h2, h3⟩
/-- A row's cell is written: what was appended stands. -/
theorem MoAt.put {W : World} {base : Nat} {VK : List Value} {n q len : Nat} {M : Value} {m1 m2 : Int} (h : MoAt W base VK n q len M m1 m2) {b k j : Nat} (u : Value) (hb : (VK.getD j nilV).ownBlock = some b) (hj : j < n) (hk : j = q → k < len) : MoAt (W.setCell ⟨b, k, none⟩ u) base VK n q len M m1 m2 := by
  obtain ⟨g, cap, cs, hM, hbs, hh, h1, h2, h3⟩ := h
  by_cases he : g = b
  · subst he
    have hjq : j = q := by
      rcases Nat.decEq j q with h | h
      · exact absurd hb (h3 j hj h)
      · exact h
    have hkl := hk hjq
    refine ⟨g, cap, _, hM, hbs, heap_setCell_same W g k cs 2 u hh, ?_, ?_, h3⟩
    · rw [Array.getElem?_setIfInBounds_ne (by omega)]; exact h1
    · rw [Array.getElem?_setIfInBounds_ne (by omega)]; exact h2
  · exact ⟨g, cap, cs, hM, hbs, by rw [Below.heap_setCell _ _ _ _ (by simpa using he)]; exact hh, h1, h2, h3⟩
theorem MoAt.cells {W : World} {base : Nat} {VK : List Value} {n q len : Nat} {M : Value} {m1 m2 : Int} (h : MoAt W base VK n q len M m1 m2) : ∃ g cap, M = .slice (some ⟨g, 0, none⟩) (len + 2) cap ∧ W.cell? ⟨g, len, none⟩ = some (.int .i64 m1) ∧ W.cell? ⟨g, len + 1, none⟩ = some (.int .i64 m2) := by
  obtain ⟨g, cap, cs, hM, hb, hh, h1, h2, h3⟩ := h
  exact ⟨g, cap, hM, by rw [cell_of_row W g len _ _ (0, 0) hh]; exact h1, by rw [cell_of_row W g (len + 1) _ _ (0, 0) hh]; exact h2⟩
/-- An append's answer is such. -/
theorem MoAt.of {W W' : World} {base : Nat} {VK : List Value} {ks : List (List Int)} {n q : Nat} {X : List Int} {M : Value} {m1 m2 : Int} {o : Obj} (hk : KpI W base VK ks) (hn : ks.length = n) (hq : q < n) (hown : W'.ownsRow base 2 1 M (X.length + 2) (iv X ++ [.int .i64 m1, .int .i64 m2])) (hat : M.ownBlock = (VK.getD q nilV).ownBlock ∨ M.ownBlock = some (W.alloc o).heap.size) : MoAt W' base VK n q X.length M m1 m2 := by
  rcases hown.2 with ⟨_, h0⟩ | ⟨g, cap, cur, rfl, hb, hh, hnc, hcm, hcs, htake⟩
  · omega
  · rw [Nat.mul_one] at htake
    have hget : ∀ i, i < X.length + 2 → cur[i]? = (iv X ++ [.int .i64 m1, .int .i64 m2])[i]? := by
      intro i hi
      rw [← htake, List.getElem?_take_of_lt hi]
      simp
    refine ⟨g, cap, cur, rfl, hb, hh, ?_, ?_, fun j hj hjq e => ?_⟩
    · rw [hget _ (by omega), List.getElem?_append_right (by rw [iv_length]; omega), iv_length, Nat.sub_self]; rfl
    · rw [hget _ (by omega), List.getElem?_append_right (by rw [iv_length]; omega), iv_length, Nat.add_sub_cancel_left]; rfl
    · rcases hat with h | h
      · simp only [Value.ownBlock] at h
        exact hk.apart q j (by omega) (by omega) (Ne.symm hjq) g h.symm e
      · simp only [Value.ownBlock, Option.some.injEq] at h
        have := (hk.lt (show j < ks.length by omega) e).2
        simp at h
        omega

/-- The numbers that apart appends, and those that it writes. -/
def mp1 (q : Nat) : Int := -(1000 * (q : Int))
def mp2 (q : Nat) : Int := -(1000 * (q : Int)) + 2 - 1
/-- What stands in apart: the books, and for the first i rows what was appended. -/
structure AI (w wx : World) (s d l : Int) (vK vW vM : Value) (VK VW MS : List Value) (ks xs : List (List Int)) (n i : Nat) : Prop where
  ob : OB w wx s d l vK vW VK VW ks xs n
  len : ∀ q, (ks.getD q []).length = (xs.getD q []).length
  sm : wx.ownsRow (w.heap.size + 1) 27 1 vM n MS
  mka : ∀ b, vM.ownBlock = some b → vK.ownBlock ≠ some b
  mw : ∀ b, vM.ownBlock = some b → vW.ownBlock ≠ some b
  mo : ∀ q, q < i → MoAt wx (w.heap.size + 1) VK n q (xs.getD q []).length (MS.getD q nilV) (mp1 q) (mp2 q)
theorem AI.step {w wx wy : World} {s d l : Int} {vK vW vM : Value} {VK VW MS : List Value} {ks xs : List (List Int)} {n i : Nat} (h : AI w wx s d l vK vW vM VK VW MS ks xs n i) (hf : Fr wx wy (fun _ => False)) : AI w wy s d l vK vW vM VK VW MS ks xs n i :=
  ⟨h.ob.step hf, h.len, own_fr h.sm hf (fun _ _ h => h), h.mka, h.mw, fun q hq => (h.mo q hq).fr hf (fun _ _ _ h => h)⟩
theorem ms_len {w wx : World} {s d l : Int} {vK vW vM : Value} {VK VW MS : List Value} {ks xs : List (List Int)} {n i : Nat} (h : AI w wx s d l vK vW vM VK VW MS ks xs n i) : MS.length = n := by simpa using h.sm.1
/-- One row is appended to, and the answer laid into the third spine. -/
theorem AI.push {w wx wy : World} {s d l : Int} {vK vW vM M : Value} {VK VW MS : List Value} {ks xs : List (List Int)} {n i gM : Nat} {o : Obj} (h : AI w wx s d l vK vW vM VK VW MS ks xs n i) (hi : i < n)
    (hX : ks.getD i [] = xs.getD i [])
    (hown : wy.ownsRow (w.heap.size + 1) 2 1 M ((xs.getD i []).length + 2) (iv (xs.getD i []) ++ [.int .i64 (mp1 i), .int .i64 (mp2 i)]))
    (hg : (wx.alloc o).grownBy wy (VK.getD i nilV).ownBlock) (hat : M.ownBlock = (VK.getD i nilV).ownBlock ∨ M.ownBlock = some (wx.alloc o).heap.size)
    (hkeep : wy.ownsRow (w.heap.size + 1) 2 1 (VK.getD i nilV) (xs.getD i []).length (iv (xs.getD i []))) (hgM : vM.ownBlock = some gM) :
    AI w (wy.setCell ⟨gM, i, none⟩ M) s d l vK vW vM VK VW (MS.set i M) (ks.set i (xs.getD i [])) xs n (i + 1) := by
  have hik : i < ks.length := by rw [h.ob.klen]; exact hi
  have hml := ms_len h
  have hf : Fr wx wy (fun k => (VK.getD i nilV).ownBlock = some k) := (alloc_fr wx o _).grown hg (fun k _ e => e)
  have hOB := h.ob.turn (j := i) hi (x := xs.getD i []) hf hkeep
  have hoA := h.ob.o.bk.k.own i hik
  have hsm : wy.ownsRow (w.heap.size + 1) 27 1 vM n MS := own_fr h.sm hf (fun k hk e => spine_ne h.sm hoA k hk e)
  have hgb := (h.sm.lt gM hgM).1
  have hfs : Fr wy (wy.setCell ⟨gM, i, none⟩ M) (fun k => k = gM) := (Fr.refl wy (fun k => k = gM)).setCell (p := ⟨gM, i, none⟩) (fun _ => rfl) _
  have hrow : ∀ (v : Value) (m : Nat) (us : List Value), wy.ownsRow (w.heap.size + 1) 2 1 v m us → ∀ k, v.ownBlock = some k → ¬ k = gM := fun v m us ho k hk e => spine_ne hsm ho gM hgM (by rw [hk, e])
  have hMo : MoAt wy (w.heap.size + 1) VK n i (xs.getD i []).length M (mp1 i) (mp2 i) := MoAt.of h.ob.o.bk.k h.ob.klen hi hown hat
  have hmo : ∀ (W : World) (q : Nat) (Mq : Value), MoAt wy (w.heap.size + 1) VK n q (xs.getD q []).length Mq (mp1 q) (mp2 q) → MoAt (wy.setCell ⟨gM, i, none⟩ M) (w.heap.size + 1) VK n q (xs.getD q []).length Mq (mp1 q) (mp2 q) := fun _ q Mq hq => hq.fr hfs (fun g cap hM e => by
    obtain ⟨g', cap', cs, hM', _, hh, _⟩ := hq
    rw [hM] at hM'
    cases hM'
    subst e
    exact own_ne hsm hh (by decide) hgM)
  refine ⟨⟨⟨⟨hOB.o.vf.vw.fr hfs (fun e => by omega), hOB.o.vf.fr.trans2 hfs (fun k hk e => by omega)⟩, own_fr hOB.o.sk hfs (fun k hk e => h.mka gM hgM (by rw [hk, e])), own_fr hOB.o.sw hfs (fun k hk e => h.mw gM hgM (by rw [hk, e])), hOB.o.sp, hOB.o.bk.fr hfs (fun j hj k hk => hrow _ _ _ (hOB.o.bk.k.own j hj) k hk) (fun j hj k hk => hrow _ _ _ (hOB.o.bk.u.own j hj) k hk)⟩, hOB.len, hOB.klen, hOB.short, hOB.fit⟩, fun q => ?_, own_setV hsm hgM i M, h.mka, h.mw, fun q hq => ?_⟩
  · rw [getD_set _ _ _ _ _ hik]
    split
    · rename_i e
      rw [e]
    · exact h.len q
  · rw [getD_set _ _ _ _ _ (by omega)]
    split
    · rename_i e
      subst e
      exact hmo wy q M hMo
    · refine hmo wy q _ ((h.mo q (by omega)).fr hf (fun g cap hM e => ?_))
      obtain ⟨g', cap', cs, hM', _, _, _, _, h3⟩ := h.mo q (by omega)
      rw [hM] at hM'
      cases hM'
      exact h3 i hi (by omega) e
/-- One cell of a row is written. -/
theorem AI.write {w wx : World} {s d l : Int} {vK vW vM : Value} {VK VW MS : List Value} {ks xs : List (List Int)} {n i b k : Nat} (h : AI w wx s d l vK vW vM VK VW MS ks xs n n) (hi : i < n) (hb : (VK.getD i nilV).ownBlock = some b) (hk : k < (xs.getD i []).length) (u : Int) :
    AI w (wx.setCell ⟨b, k, none⟩ (.int .i64 u)) s d l vK vW vM VK VW MS (ks.set i ((ks.getD i []).set k u)) xs n n := by
  have hik : i < ks.length := by rw [h.ob.klen]; exact hi
  have hoA := h.ob.o.bk.k.own i hik
  have hf : Fr wx (wx.setCell ⟨b, k, none⟩ (.int .i64 u)) (fun c => (VK.getD i nilV).ownBlock = some c) := (Fr.refl wx (fun c => (VK.getD i nilV).ownBlock = some c)).setCell (p := ⟨b, k, none⟩) (fun _ => hb) _
  refine ⟨h.ob.turn hi hf (own_setI hoA hb k u), fun q => ?_, own_fr h.sm hf (fun c hc e => spine_ne h.sm hoA c hc e), h.mka, h.mw, fun q hq => (h.mo q hq).put _ hb hi (fun e => by rw [← e]; exact hk)⟩
  rw [getD_set _ _ _ _ _ hik]
  split
  · rename_i e
    rw [List.length_set, e, h.len i]
  · exact h.len q
end Go.Proofs.Ytfdkinghcalhfab
