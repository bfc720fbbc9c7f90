/- net: the document's net: Open, Take, Close, Cut: walks. -/
import Derived.Test.YtljkbnjdciljfaaNRef2
namespace Go.Proofs.Ytljkbnjdciljfaa
open Go.RowKit

theorem RNA.pre {W W1 W2 : World} {lo : Nat} {g : Rx} {s : Np} (hf : Fr W W1 (fun _ => False)) (h : RNA W1 W2 lo g s) : RNA W W2 lo g s := by
  obtain ⟨g', h1, h2, h3, h4⟩ := h
  refine ⟨g', h1, h2, fun k hk => ?_, (hf.mono (fun _ _ h => h.elim)).trans h4⟩
  rcases h3 k hk with h | h
  · exact Or.inl h
  · have := hf.size; exact Or.inr (by omega)
theorem RN.old {W W' : World} {lo : Nat} {g : Rx} {s : Np} (h : RN W lo g s) (hf : Fr W W' (fun q => q = g.G ∨ q = g.L)) {n j : Nat} (hn : n < 65) (h3 : 3 ≤ j) (h7 : j < 7) : Rw W' lo 5 (g.cv n j) (lst (cOf s n) j) ∧ ∀ q, (g.cv n j).ownBlock = some q → (∃ j', 3 ≤ j' ∧ j' < 7 ∧ (g.cv n j').ownBlock = some q) ∨ W.heap.size ≤ q :=
  ⟨(h.ls n j hn h3 h7).fr hf (fun q hq hs => by
    obtain ⟨n1, n2⟩ := h.ne hn h3 h7
    rcases hs with rfl | rfl
    · exact n1 hq
    · exact n2 hq), fun q hq => Or.inl ⟨j, h3, h7, hq⟩⟩
theorem rw_none {W' : World} {lo : Nat} {P : Nat → Prop} : Rw W' lo 5 (.slice none 0 0) [] ∧ ∀ q, (Value.slice none 0 0).ownBlock = some q → P q := ⟨Rw.nil _ _ _, fun q hq => by simp [Value.ownBlock] at hq⟩
/-- One cell of a connection is turned. -/
theorem set_l {W : World} {g : Rx} (n j : Nat) (u : Value) : Fr W (W.setCell ⟨g.L, n * 7 + j, none⟩ u) (fun q => q = g.G ∨ q = g.L) := (set_fr W g.L _ u).mono (fun _ _ e => Or.inr e)
theorem set_net {W : World} {g : Rx} {o : Obj} (hn : W.heap[g.G]? = some o) (hgl : g.G ≠ g.L) (q : Nat) (u : Value) : (W.setCell ⟨g.L, q, none⟩ u).heap[g.G]? = some o := keep_block hn (set_fr W g.L q u) hgl
theorem cv_same (cv : Nat → Nat → Value) (i j : Nat) (u : Value) : cvSet cv i j u i j = u := by simp [cvSet]
theorem cv_row (cv : Nat → Nat → Value) {i a j b : Nat} (h : a ≠ i) (u : Value) : cvSet cv i j u a b = cv a b := by simp [cvSet, h]
theorem cv_col (cv : Nat → Nat → Value) {i j b : Nat} (h : b ≠ j) (u : Value) : cvSet cv i j u i b = cv i b := by simp [cvSet, h]
theorem four {P : Nat → Prop} (h3 : P 3) (h4 : P 4) (h5 : P 5) (h6 : P 6) : ∀ j, 3 ≤ j → j < 7 → P j := by
  intro j a b
  have : j = 3 ∨ j = 4 ∨ j = 5 ∨ j = 6 := by omega
  rcases this with rfl | rfl | rfl | rfl
  · exact h3
  · exact h4
  · exact h5
  · exact h6
theorem c_of {s : Np} {n : Nat} {x : Cp} (h : s.c n = some x) : cOf s n = x := by unfold cOf; rw [h]; rfl
/-- Behind the stores of each call. -/
theorem RN.opened {W : World} {lo : Nat} {g : Rx} {s : Np} (h : RN W lo g s) {n : Nat} (hn : n < 65) (hx : s.c n = none) (hs' : openS s n = s.upd n cp0 0) : RNA W (W.setCell ⟨g.L, n * 7, none⟩ (.bool true)) lo g (openS s n) := by
  have hf : Fr W (W.setCell ⟨g.L, n * 7 + 0, none⟩ (.bool true)) (fun q => q = g.G ∨ q = g.L) := set_l n 0 _
  have hcp : cOf s n = cp0 := by unfold cOf; rw [hx]; rfl
  have hold := fun j h3 h7 => h.old hf (n := n) (j := j) hn h3 h7
  rw [hcp] at hold
  refine h.upd hn hs' (wf_open h.wf _) (cv' := cvSet g.cv n 0 (.bool true)) hf ?_ (h.row.set n 0 hn (by omega) _) (fun i j e => cv_row _ e _) (cv_same _ _ _ _) ?_ ?_ (fun j h3 h7 => ?_)
  · rw [hs']
    exact set_net h.net h.gl _ _
  · rw [cv_col _ (by omega), h.cl n hn, hcp]
  · rw [cv_col _ (by omega), h.ct n hn, hcp]
  · rw [cv_col _ (by omega)]
    exact hold j h3 h7
theorem RN.took {W : World} {lo : Nat} {g : Rx} {s : Np} (h : RN W lo g s) {n : Nat} {x : Cp} (hn : n < 65) (hx : s.c n = some x) (hs' : takeS s n = s.upd n { x with i := [] } 0) : RNA W (W.setCell ⟨g.L, n * 7 + 4, none⟩ (.slice none 0 0)) lo g (takeS s n) := by
  have hf : Fr W (W.setCell ⟨g.L, n * 7 + 4, none⟩ (.slice none 0 0)) (fun q => q = g.G ∨ q = g.L) := set_l n 4 _
  have hcp := c_of hx
  have hold := fun j h3 h7 => h.old hf (n := n) (j := j) hn h3 h7
  rw [hcp] at hold
  refine h.upd hn hs' (wf_take h.wf _) (cv' := cvSet g.cv n 4 (.slice none 0 0)) hf ?_ (h.row.set n 4 hn (by omega) _) (fun i j e => cv_row _ e _) ?_ ?_ ?_ (four ?_ ?_ ?_ ?_)
  · rw [hs']
    exact set_net h.net h.gl _ _
  · rw [cv_col _ (by omega), h.th n hn, hx]; rfl
  · rw [cv_col _ (by omega), h.cl n hn, hcp]
  · rw [cv_col _ (by omega), h.ct n hn, hcp]
  · rw [cv_col _ (by omega)]; exact hold 3 (by omega) (by omega)
  · rw [cv_same]; exact rw_none
  · rw [cv_col _ (by omega)]; exact hold 5 (by omega) (by omega)
  · rw [cv_col _ (by omega)]; exact hold 6 (by omega) (by omega)
theorem RN.closed {W : World} {lo : Nat} {g : Rx} {s : Np} (h : RN W lo g s) {n : Nat} {x : Cp} (hn : n < 65) (hx : s.c n = some x) (hs' : closeS s n = s.upd n { x with cl := true, w := [], i := [] } 0) : RNA W (((W.setCell ⟨g.L, n * 7 + 1, none⟩ (.bool true)).setCell ⟨g.L, n * 7 + 3, none⟩ (.slice none 0 0)).setCell ⟨g.L, n * 7 + 4, none⟩ (.slice none 0 0)) lo g (closeS s n) := by
  have hf : Fr W (((W.setCell ⟨g.L, n * 7 + 1, none⟩ (.bool true)).setCell ⟨g.L, n * 7 + 3, none⟩ (.slice none 0 0)).setCell ⟨g.L, n * 7 + 4, none⟩ (.slice none 0 0)) (fun q => q = g.G ∨ q = g.L) := ((set_l n 1 _).trans (set_l n 3 _)).trans (set_l n 4 _)
  have hcp := c_of hx
  have hold := fun j h3 h7 => h.old hf (n := n) (j := j) hn h3 h7
  rw [hcp] at hold
  refine h.upd hn hs' (wf_close h.wf _) (cv' := cvSet (cvSet (cvSet g.cv n 1 (.bool true)) n 3 (.slice none 0 0)) n 4 (.slice none 0 0)) hf ?_ (((h.row.set n 1 hn (by omega) _).set n 3 hn (by omega) _).set n 4 hn (by omega) _) (fun i j e => by rw [cv_row _ e, cv_row _ e, cv_row _ e]) ?_ ?_ ?_ (four ?_ ?_ ?_ ?_)
  · rw [hs']
    exact set_net (set_net (set_net h.net h.gl _ _) h.gl _ _) h.gl _ _
  · rw [cv_col _ (by omega), cv_col _ (by omega), cv_col _ (by omega), h.th n hn, hx]; rfl
  · rw [cv_col _ (by omega), cv_col _ (by omega), cv_same]
  · rw [cv_col _ (by omega), cv_col _ (by omega), cv_col _ (by omega), h.ct n hn, hcp]
  · rw [cv_col _ (by omega), cv_same]; exact rw_none
  · rw [cv_same]; exact rw_none
  · rw [cv_col _ (by omega), cv_col _ (by omega), cv_col _ (by omega)]; exact hold 5 (by omega) (by omega)
  · rw [cv_col _ (by omega), cv_col _ (by omega), cv_col _ (by omega)]; exact hold 6 (by omega) (by omega)
theorem RN.cutt {W : World} {lo : Nat} {g : Rx} {s : Np} (h : RN W lo g s) {n : Nat} {x : Cp} (hn : n < 65) (hx : s.c n = some x) (hs' : cutS s n = s.upd n { x with ct := true, w := [], i := [], o := [] } 0) : RNA W ((((W.setCell ⟨g.L, n * 7 + 2, none⟩ (.bool true)).setCell ⟨g.L, n * 7 + 3, none⟩ (.slice none 0 0)).setCell ⟨g.L, n * 7 + 4, none⟩ (.slice none 0 0)).setCell ⟨g.L, n * 7 + 5, none⟩ (.slice none 0 0)) lo g (cutS s n) := by
  have hf : Fr W ((((W.setCell ⟨g.L, n * 7 + 2, none⟩ (.bool true)).setCell ⟨g.L, n * 7 + 3, none⟩ (.slice none 0 0)).setCell ⟨g.L, n * 7 + 4, none⟩ (.slice none 0 0)).setCell ⟨g.L, n * 7 + 5, none⟩ (.slice none 0 0)) (fun q => q = g.G ∨ q = g.L) := (((set_l n 2 _).trans (set_l n 3 _)).trans (set_l n 4 _)).trans (set_l n 5 _)
  have hcp := c_of hx
  have hold := fun j h3 h7 => h.old hf (n := n) (j := j) hn h3 h7
  rw [hcp] at hold
  refine h.upd hn hs' (wf_cut h.wf _) (cv' := cvSet (cvSet (cvSet (cvSet g.cv n 2 (.bool true)) n 3 (.slice none 0 0)) n 4 (.slice none 0 0)) n 5 (.slice none 0 0)) hf ?_ ((((h.row.set n 2 hn (by omega) _).set n 3 hn (by omega) _).set n 4 hn (by omega) _).set n 5 hn (by omega) _) (fun i j e => by rw [cv_row _ e, cv_row _ e, cv_row _ e, cv_row _ e]) ?_ ?_ ?_ (four ?_ ?_ ?_ ?_)
  · rw [hs']
    exact set_net (set_net (set_net (set_net h.net h.gl _ _) h.gl _ _) h.gl _ _) h.gl _ _
  · rw [cv_col _ (by omega), cv_col _ (by omega), cv_col _ (by omega), cv_col _ (by omega), h.th n hn, hx]; rfl
  · rw [cv_col _ (by omega), cv_col _ (by omega), cv_col _ (by omega), cv_col _ (by omega), h.cl n hn, hcp]
  · rw [cv_col _ (by omega), cv_col _ (by omega), cv_col _ (by omega), cv_same]
  · rw [cv_col _ (by omega), cv_col _ (by omega), cv_same]; exact rw_none
  · rw [cv_col _ (by omega), cv_same]; exact rw_none
  · rw [cv_same]; exact rw_none
  · rw [cv_col _ (by omega), cv_col _ (by omega), cv_col _ (by omega), cv_col _ (by omega)]; exact hold 6 (by omega) (by omega)
/-- A connection that is there. -/
theorem one_of {s : Np} {n : Nat} {x : Cp} (h1 : 1 ≤ n) (h2 : n ≤ 64) (hx : s.c n = some x) : One s (n : Int) x s.a s.b s.m := ⟨isC_of h1 h2, by rw [at_of (isC_of h1 h2)]; exact hx, rfl, rfl, rfl⟩
set_option maxHeartbeats 4000000 in
set_option maxRecDepth 100000 in
theorem ropen_any {W : World} {lo : Nat} {g : Rx} {s : Np} (h : RN W lo g s) (c : Int) : Calls Try.prog 34 #[.pointer (some ⟨g.G, 0, none⟩), .int .i64 c] W fun e w' => e = .returned (.int .i64 (openE s c)) ∧ RNA W w' lo g (openS s c) := by
  have HI := hid (is_any c W)
  cases hc : isC c with
  | false =>
    have h1 : openE s c = 1 := by unfold openE; rw [hc]; rfl
    have h2 : openS s c = s := by unfold openS; rw [hc]; simp
    rw [h1, h2]
    rw [hc] at HI
    have HK := hid (h.keep (Fr.refl W _))
    go_enter Try.func34, Try.ntmps34
    go_wp2_with fail
    refine HI.out.mono ?_
    rintro e w1 ⟨rfl, h9⟩
    obtain rfl : W = w1 := h9.symm
    clear h9
    go_wp2
    go_ret
    exact ⟨rfl, HK.out⟩
  | true =>
    rw [hc] at HI
    obtain ⟨n, rfl, hn1, hn2⟩ := isC_nat hc
    obtain ⟨g0, g1, g2, g3, gf, gl⟩ := h.cells
    obtain ⟨c0, c1, c2, _, fz, hl⟩ := h.co (n := n) (by omega)
    have t0 : (0 : Int) ≤ (n : Int) := by omega
    have t1 : (n : Int) < 65 := by omega
    have hz0 := fz (n * 7)
    cases hx : s.c n with
    | some x =>
      obtain ⟨h1, h2⟩ := openE_old (one_of hn1 hn2 hx)
      rw [h1, h2]
      rw [hx] at c0
      have HK := hid (h.keep (Fr.refl W _))
      clear h h1 h2 hx g0 g1 g3 gf c1 c2 fz
      go_enter Try.func34, Try.ntmps34
      go_wp2_with fail
      refine HI.out.mono ?_
      rintro e w1 ⟨rfl, h9⟩
      obtain rfl : W = w1 := h9.symm
      clear h9
      go_wp2
      go_ret
      exact ⟨rfl, HK.out⟩
    | none =>
      obtain ⟨h1, h2⟩ := openE_new (s := s) hc (by rw [at_of hc]; exact hx)
      rw [h1]
      rw [hx] at c0
      have HK := hid (h.opened (by omega) hx h2)
      clear h h1 h2 hx g0 g1 g3 gf c1 c2 fz
      generalize openS s n = s' at *
      go_enter Try.func34, Try.ntmps34
      go_wp2_with fail
      refine HI.out.mono ?_
      rintro e w1 ⟨rfl, h9⟩
      obtain rfl : W = w1 := h9.symm
      clear h9
      go_wp2
      go_ret
      exact ⟨rfl, HK.out⟩
end Go.Proofs.Ytljkbnjdciljfaa
