/- Books of rows of bytes with two spines; the law's apart over bytes: what stands. -/
import Derived.Test.YtmadlmbpgkifoabKept
import Derived.Deep.OwnRows
namespace Go.Proofs.Ytmadlmbpgkifoab
open Go.RowKit

theorem bk_hid {p : Prop} (h : p) : Hid p := h
theorem bk_last (w : World) (o : Obj) (k : Nat) (h : w.heap.size = k) : (w.alloc o).heap[k]? = some o := by subst h; exact heap_alloc_new w o
/-- A cell of an owned row of whatever values, written. -/
theorem own_setV {w : World} {base : Nat} {e : TypeId} {v : Value} {n : Nat} {vs : List Value} (h : w.ownsRow base e 1 v n vs) {g : Nat} (hg : v.ownBlock = some g) (j : Nat) (u : Value) : (w.setCell ⟨g, j, none⟩ u).ownsRow base e 1 v n (vs.set j u) := by
  have hl := h.1
  rcases h.2 with ⟨rfl, _⟩ | ⟨g', cap, cur, rfl, hb, hh, hn, hm, hs, ht⟩
  · simp [Value.ownBlock] at hg
  · simp [Value.ownBlock] at hg
    subst hg
    have h1 := heap_setCell_same w g' j cur e u hh
    refine ⟨by rw [List.length_set]; exact hl, Or.inr ⟨g', cap, _, rfl, hb, h1, hn, hm, by simpa using hs, ?_⟩⟩
    rw [Array.toList_setIfInBounds, List.take_set, ht]
/-- A spine's block is none of the rows'. -/
theorem spine_ne8 {w : World} {base n : Nat} {v u : Value} {vs us : List Value} {m : Nat} (h : w.ownsRow base 24 1 v n vs) (h2 : w.ownsRow base 5 1 u m us) : ∀ b, v.ownBlock = some b → u.ownBlock ≠ some b := by
  intro b hb e
  rcases h2.2 with ⟨rfl, _⟩ | ⟨g, cap, cur, rfl, _, hg, _⟩
  · simp [Value.ownBlock] at e
  · simp [Value.ownBlock] at e
    subst e
    exact own_ne h hg (by decide) hb
theorem spine_cell8 {wx : World} {base : Nat} {v : Value} {VS : List Value} {n : Nat} (h : wx.ownsRow base 24 1 v n VS) {i : Nat} (hi : i < n) : ∃ g cap, v = .slice (some ⟨g, 0, none⟩) n cap ∧ wx.cell? ⟨g, i, none⟩ = some (VS.getD i (.slice none 0 0)) ∧ wx.frozen? ⟨g, i, none⟩ = false := by
  have hl : VS.length = n := by simpa using h.1
  rcases h.2 with ⟨_, h0⟩ | ⟨g, cap, cur, rfl, _, hh, _⟩
  · omega
  · refine ⟨g, cap, rfl, ?_, by simp [World.frozen?, hh]⟩
    have := h.cells (g := g) rfl i (VS.getD i (.slice none 0 0)) (by simp [List.getD, hl, hi])
    rwa [Addr.add_lit, Nat.zero_add] at this

/-- Spines vK, vW; rows VK with ks, VW with xs: n of each; since the world w only the kept rows' blocks have turned. -/
structure BB (N : Nat) (w wx : World) (vK vW : Value) (VK VW : List Value) (ks xs : List (List Nat)) (n : Nat) : Prop where
  fr : Fr w wx (fun k => ∃ i, i < n ∧ (VK.getD i (.slice none 0 0)).ownBlock = some k)
  sk : wx.ownsRow N 24 1 vK n VK
  sw : wx.ownsRow N 24 1 vW n VW
  sp : ∀ b, vK.ownBlock = some b → vW.ownBlock ≠ some b
  k : Kp 5 wx N VK ks
  u : Kp 5 wx N VW xs
  cross : ∀ i j, i < n → j < n → ∀ b, (VK.getD i (.slice none 0 0)).ownBlock = some b → (VW.getD j (.slice none 0 0)).ownBlock ≠ some b
  klen : ks.length = n
  len : xs.length = n
  base : N ≤ w.heap.size
  short : ∀ i, (xs.getD i []).length ≤ 70368744177664
theorem BB.step {N : Nat} {w wx wy : World} {vK vW : Value} {VK VW : List Value} {ks xs : List (List Nat)} {n : Nat} (h : BB N w wx vK vW VK VW ks xs n) (hf : Fr wx wy (fun _ => False)) : BB N w wy vK vW VK VW ks xs n :=
  ⟨h.fr.trans (hf.mono (fun _ _ h => h.elim)), own_fr h.sk hf (fun _ _ h => h), own_fr h.sw hf (fun _ _ h => h), h.sp, h.k.fr hf (fun _ _ _ _ h => h), h.u.fr hf (fun _ _ _ _ h => h), h.cross, h.klen, h.len, h.base, h.short⟩
theorem BB.turn {N : Nat} {w wx wy : World} {vK vW : Value} {VK VW : List Value} {ks xs : List (List Nat)} {n j : Nat} (h : BB N w wx vK vW VK VW ks xs n) (hj : j < n) {x : List Nat} (hf : Fr wx wy (fun k => (VK.getD j (.slice none 0 0)).ownBlock = some k)) (ho : wy.ownsRow N 5 1 (VK.getD j (.slice none 0 0)) x.length (by8 x)) : BB N w wy vK vW VK VW (ks.set j x) xs n := by
  have hjk : j < ks.length := by rw [h.klen]; exact hj
  have hoA := h.k.own j hjk
  exact ⟨h.fr.trans (hf.mono (fun k _ e => ⟨j, hj, e⟩)), own_fr h.sk hf (fun k hk e => spine_ne8 h.sk hoA k hk e), own_fr h.sw hf (fun k hk e => spine_ne8 h.sw hoA k hk e), h.sp, h.k.turn hjk hf ho, h.u.fr hf (fun i hi k hk e => h.cross j i hj (by rw [← h.len]; exact hi) k e hk), h.cross, by rw [List.length_set]; exact h.klen, h.len, h.base, h.short⟩

/-- What was appended: two bytes behind the row; in the row's own block or in a new one, in no other row's. -/
def MoAt8 (W : World) (base : Nat) (VK : List Value) (n q len : Nat) (M : Value) (m1 m2 : Int) : Prop :=
  ∃ g cap cs, M = .slice (some ⟨g, 0, none⟩) (len + 2) cap ∧ base ≤ g ∧ W.heap[g]? = some (.cells cs 5 (0, 0)) ∧ cs[len]? = some (.int .u8 m1) ∧ cs[len + 1]? = some (.int .u8 m2) ∧ ∀ j, j < n → j ≠ q → (VK.getD j (.slice none 0 0)).ownBlock ≠ some g
theorem MoAt8.fr {W W' : World} {base : Nat} {VK : List Value} {n q len : Nat} {M : Value} {m1 m2 : Int} (h : MoAt8 W base VK n q len M m1 m2) {S : Nat → Prop} (hf : Fr W W' S) (hS : ∀ g cap, M = .slice (some ⟨g, 0, none⟩) (len + 2) cap → ¬ S g) : MoAt8 W' base VK n q len M m1 m2 := by
  obtain ⟨g, cap, cs, hM, hb, hh, h1, h2, h3⟩ := h
  exact ⟨g, cap, cs, hM, hb, by rw [hf.block g (lt_of_block hh) (hS g cap hM)]; exact hh, h1, h2, h3⟩
theorem MoAt8.put {W : World} {base : Nat} {VK : List Value} {n q len : Nat} {M : Value} {m1 m2 : Int} (h : MoAt8 W base VK n q len M m1 m2) {b k j : Nat} (u : Value) (hb : (VK.getD j (.slice none 0 0)).ownBlock = some b) (hj : j < n) (hk : j = q → k < len) : MoAt8 (W.setCell ⟨b, k, none⟩ u) base VK n q len M m1 m2 := by
  obtain ⟨g, cap, cs, hM, hbs, hh, h1, h2, h3⟩ := h
  by_cases he : g = b
  · subst he
    have hjq : j = q := by
      rcases Nat.decEq j q with h | h
      · exact absurd hb (h3 j hj h)
      · exact h
    have hkl := hk hjq
    refine ⟨g, cap, _, hM, hbs, heap_setCell_same W g k cs 5 u hh, ?_, ?_, h3⟩
    · rw [Array.getElem?_setIfInBounds_ne (by omega)]; exact h1
    · rw [Array.getElem?_setIfInBounds_ne (by omega)]; exact h2
  · exact ⟨g, cap, cs, hM, hbs, by rw [Below.heap_setCell _ _ _ _ (by simpa using he)]; exact hh, h1, h2, h3⟩
theorem MoAt8.cells {W : World} {base : Nat} {VK : List Value} {n q len : Nat} {M : Value} {m1 m2 : Int} (h : MoAt8 W base VK n q len M m1 m2) : ∃ g cap, M = .slice (some ⟨g, 0, none⟩) (len + 2) cap ∧ W.cell? ⟨g, len, none⟩ = some (.int .u8 m1) ∧ W.cell? ⟨g, len + 1, none⟩ = some (.int .u8 m2) := by
  obtain ⟨g, cap, cs, hM, hb, hh, h1, h2, h3⟩ := h
  exact ⟨g, cap, hM, by rw [cell_of_row W g len _ _ (0, 0) hh]; exact h1, by rw [cell_of_row W g (len + 1) _ _ (0, 0) hh]; exact h2⟩
theorem MoAt8.of {W W' : World} {base : Nat} {VK : List Value} {ks : List (List Nat)} {n q : Nat} {X : List Nat} {M : Value} {m1 m2 : Int} {o : Obj} (hk : Kp 5 W base VK ks) (hn : ks.length = n) (hq : q < n) (hown : W'.ownsRow base 5 1 M (X.length + 2) (by8 X ++ [.int .u8 m1, .int .u8 m2])) (hat : M.ownBlock = (VK.getD q (.slice none 0 0)).ownBlock ∨ M.ownBlock = some (W.alloc o).heap.size) : MoAt8 W' base VK n q X.length M m1 m2 := by
  rcases hown.2 with ⟨_, h0⟩ | ⟨g, cap, cur, rfl, hb, hh, hnc, hcm, hcs, htake⟩
  · omega
  · rw [Nat.mul_one] at htake
    have hget : ∀ i, i < X.length + 2 → cur[i]? = (by8 X ++ [.int .u8 m1, .int .u8 m2])[i]? := by
      intro i hi
      rw [← htake, List.getElem?_take_of_lt hi]
      simp
    refine ⟨g, cap, cur, rfl, hb, hh, ?_, ?_, fun j hj hjq e => ?_⟩
    · rw [hget _ (by omega), List.getElem?_append_right (by rw [by8_length]; omega), by8_length, Nat.sub_self]; rfl
    · rw [hget _ (by omega), List.getElem?_append_right (by rw [by8_length]; omega), by8_length, Nat.add_sub_cancel_left]; rfl
    · rcases hat with h | h
      · simp only [Value.ownBlock] at h
        exact hk.apart q j (by omega) (by omega) (Ne.symm hjq) g h.symm e
      · simp only [Value.ownBlock, Option.some.injEq] at h
        have := (hk.lt (show j < ks.length by omega) e).2
        simp at h
        omega

/-- What stands in apart: the books, and for the first i rows what was appended (P1, P2: the numbers). -/
structure AB (N : Nat) (w wx : World) (vK vW vM : Value) (VK VW MS : List Value) (ks xs : List (List Nat)) (n i : Nat) (P1 P2 : Nat → Int) : Prop where
  bb : BB N w wx vK vW VK VW ks xs n
  len : ∀ q, (ks.getD q []).length = (xs.getD q []).length
  sm : wx.ownsRow N 24 1 vM n MS
  mnew : ∀ b, vM.ownBlock = some b → w.heap.size ≤ b
  mka : ∀ b, vM.ownBlock = some b → vK.ownBlock ≠ some b
  mw : ∀ b, vM.ownBlock = some b → vW.ownBlock ≠ some b
  mo : ∀ q, q < i → MoAt8 wx N VK n q (xs.getD q []).length (MS.getD q (.slice none 0 0)) (P1 q) (P2 q)
theorem AB.step {N : Nat} {w wx wy : World} {vK vW vM : Value} {VK VW MS : List Value} {ks xs : List (List Nat)} {n i : Nat} {P1 P2 : Nat → Int} (h : AB N w wx vK vW vM VK VW MS ks xs n i P1 P2) (hf : Fr wx wy (fun _ => False)) : AB N w wy vK vW vM VK VW MS ks xs n i P1 P2 :=
  ⟨h.bb.step hf, h.len, own_fr h.sm hf (fun _ _ h => h), h.mnew, h.mka, h.mw, fun q hq => (h.mo q hq).fr hf (fun _ _ _ h => h)⟩
/-- One row is appended to, and the answer laid into the third spine. -/
theorem AB.push {N : Nat} {w wx wy : World} {vK vW vM M : Value} {VK VW MS : List Value} {ks xs : List (List Nat)} {n i gM : Nat} {P1 P2 : Nat → Int} {o : Obj} (h : AB N w wx vK vW vM VK VW MS ks xs n i P1 P2) (hi : i < n)
    (hown : wy.ownsRow N 5 1 M ((xs.getD i []).length + 2) (by8 (xs.getD i []) ++ [.int .u8 (P1 i), .int .u8 (P2 i)]))
    (hg : (wx.alloc o).grownBy wy (VK.getD i (.slice none 0 0)).ownBlock) (hat : M.ownBlock = (VK.getD i (.slice none 0 0)).ownBlock ∨ M.ownBlock = some (wx.alloc o).heap.size)
    (hkeep : wy.ownsRow N 5 1 (VK.getD i (.slice none 0 0)) (xs.getD i []).length (by8 (xs.getD i []))) (hgM : vM.ownBlock = some gM) :
    AB N w (wy.setCell ⟨gM, i, none⟩ M) vK vW vM VK VW (MS.set i M) (ks.set i (xs.getD i [])) xs n (i + 1) P1 P2 := by
  have hik : i < ks.length := by rw [h.bb.klen]; exact hi
  have hml : MS.length = n := by simpa using h.sm.1
  have hf : Fr wx wy (fun k => (VK.getD i (.slice none 0 0)).ownBlock = some k) := (alloc_fr wx o _).grown hg (fun k _ e => e)
  have hOB := h.bb.turn (j := i) hi (x := xs.getD i []) hf hkeep
  have hoA := h.bb.k.own i hik
  have hsm : wy.ownsRow N 24 1 vM n MS := own_fr h.sm hf (fun k hk e => spine_ne8 h.sm hoA k hk e)
  have hgb := h.mnew gM hgM
  have hfs : Fr wy (wy.setCell ⟨gM, i, none⟩ M) (fun k => k = gM) := (Fr.refl wy (fun k => k = gM)).setCell (p := ⟨gM, i, none⟩) (fun _ => rfl) _
  have hrow : ∀ (v : Value) (m : Nat) (us : List Value), wy.ownsRow N 5 1 v m us → ∀ k, v.ownBlock = some k → ¬ k = gM := fun v m us ho k hk e => spine_ne8 hsm ho gM hgM (by rw [hk, e])
  have hMo : MoAt8 wy N VK n i (xs.getD i []).length M (P1 i) (P2 i) := MoAt8.of h.bb.k h.bb.klen hi hown hat
  have hmo : ∀ (q : Nat) (Mq : Value), MoAt8 wy N VK n q (xs.getD q []).length Mq (P1 q) (P2 q) → MoAt8 (wy.setCell ⟨gM, i, none⟩ M) N VK n q (xs.getD q []).length Mq (P1 q) (P2 q) := fun q Mq hq => hq.fr hfs (fun g cap hM e => by
    obtain ⟨g', cap', cs, hM', _, hh, _⟩ := hq
    rw [hM] at hM'
    cases hM'
    subst e
    exact own_ne hsm hh (by decide) hgM)
  refine ⟨⟨hOB.fr.trans2 hfs (fun k hk e => by omega), own_fr hOB.sk hfs (fun k hk e => h.mka gM hgM (by rw [hk, e])), own_fr hOB.sw hfs (fun k hk e => h.mw gM hgM (by rw [hk, e])), hOB.sp, hOB.k.fr hfs (fun j hj k hk => hrow _ _ _ (hOB.k.own j hj) k hk), hOB.u.fr hfs (fun j hj k hk => hrow _ _ _ (hOB.u.own j hj) k hk), hOB.cross, hOB.klen, hOB.len, hOB.base, hOB.short⟩, fun q => ?_, own_setV hsm hgM i M, h.mnew, h.mka, h.mw, fun q hq => ?_⟩
  · rw [getD_set _ _ _ _ _ hik]
    split
    · rename_i e
      rw [e]
    · exact h.len q
  · rw [getD_set _ _ _ _ _ (by omega)]
    split
    · rename_i e
      subst e
      exact hmo q M hMo
    · refine hmo q _ ((h.mo q (by omega)).fr hf (fun g cap hM e => ?_))
      obtain ⟨g', cap', cs, hM', _, _, _, _, h3⟩ := h.mo q (by omega)
      rw [hM] at hM'
      cases hM'
      exact h3 i hi (by omega) e
/-- One cell of a row is written. -/
theorem AB.write {N : Nat} {w wx : World} {vK vW vM : Value} {VK VW MS : List Value} {ks xs : List (List Nat)} {n i b k : Nat} {P1 P2 : Nat → Int} (h : AB N w wx vK vW vM VK VW MS ks xs n n P1 P2) (hi : i < n) (hb : (VK.getD i (.slice none 0 0)).ownBlock = some b) (hk : k < (xs.getD i []).length) (u : Nat) :
    AB N w (wx.setCell ⟨b, k, none⟩ (.int .u8 (u : Int))) vK vW vM VK VW MS (ks.set i ((ks.getD i []).set k u)) xs n n P1 P2 := by
  have hik : i < ks.length := by rw [h.bb.klen]; exact hi
  have hoA := h.bb.k.own i hik
  have hf : Fr wx (wx.setCell ⟨b, k, none⟩ (.int .u8 (u : Int))) (fun c => (VK.getD i (.slice none 0 0)).ownBlock = some c) := (Fr.refl wx (fun c => (VK.getD i (.slice none 0 0)).ownBlock = some c)).setCell (p := ⟨b, k, none⟩) (fun _ => hb) _
  refine ⟨h.bb.turn hi hf (own_set hoA hb k u), fun q => ?_, own_fr h.sm hf (fun c hc e => spine_ne8 h.sm hoA c hc e), h.mnew, h.mka, h.mw, fun q hq => (h.mo q hq).put _ hb hi (fun e => by rw [← e]; exact hk)⟩
  rw [getD_set _ _ _ _ _ hik]
  split
  · rename_i e
    rw [List.length_set, e, h.len i]
  · exact h.len q
end Go.Proofs.Ytmadlmbpgkifoab
