/- The law's spoil: a row is written over, and grown: the walk. -/
import Derived.Test.YtglkjhpkeelajaaVStepP
import Derived.ArgAppend
namespace Go.Proofs.Ytglkjhpkeelajaa.V
open Go.RowKit Go.Maps
open M (Cl cmpC vC)

/-- Two cells in a block of their own. -/
def Two (W : World) (N : Nat) (y z : Cl) : Prop := W.heap[N]? = some (.cells #[.int .i64 y.v, .string y.k, .int .i64 y.s, .int .i64 z.v, .string z.k, .int .i64 z.s] 64 (0, 0))
theorem Two.get {W : World} {N : Nat} {y z : Cl} (h : Two W N y z) : ∀ (j : Nat) (u : Value), (kv [y, z])[j]? = some u → W.cell? ((⟨N, 0, none⟩ : Addr).add j) = some u := by
  intro j u hj
  have h' : W.heap[N]? = some (.cells #[.int .i64 y.v, .string y.k, .int .i64 y.s, .int .i64 z.v, .string z.k, .int .i64 z.s] 64 (0, 0)) := h
  rw [Addr.add_lit, Nat.zero_add, cell_of_row W N j _ _ (0, 0) h']
  simpa [kv] using hj
/-- Append of two cells to a row of one's own. -/
theorem wpl_kw2 {W : World} {bn : Nat} {ops : Array Oper} {rest : List Oper} {o : Oper} {a : Act} {Q : Exit → Act → World → Prop} (hgd : o.guard = none) (sl x : Operand)
    (ho : o.op = .call { callee := .builtin .append, args := #[sl, x], argTypes := #[35, 35] }) (v : Value) (l : List Cl) (hs : a.eval sl = v) (N : Nat) (y z : Cl) (hx : a.eval x = .slice (some ⟨N, 0, none⟩) 2 2) (hn : l.length ≤ 1000000000) (hb : Kw bn W v l) (hbs : bn ≤ W.heap.size) (hy : Two W N y z)
    (h : ∀ v' w', Kw bn w' v' (l ++ [y, z]) → W.grownBy w' v.ownBlock → (v'.ownBlock = v.ownBlock ∨ v'.ownBlock = some W.heap.size) → wpList Try.prog ops Q rest (a.put o.dst v') w') : wpList Try.prog ops Q (o :: rest) a W := by
  obtain ⟨i0, hi, hz0, hz1, hz2⟩ := infoP Try.info_cell
  refine wpList_append_own_at W hgd sl x 35 ho bn 64 i0 _ 3 32 Try.underlying35 hi hz0 hz1 hz2 rfl (by decide) v l.length (kv l) hs hb ⟨N, 0, none⟩ 2 2 (kv [y, z]) hx rfl hy.get (kv_one _) (by unfold maxLen; omega) (by omega) hbs ?_
  intro v' w' hown hgr _ hat
  refine h v' w' ?_ hgr hat
  unfold Kw
  rw [kv_append, List.length_append]
  exact hown
/-- Append of two cells to a row that is full. -/
theorem wpl_ko2 {W : World} {ops : Array Oper} {rest : List Oper} {o : Oper} {a : Act} {Q : Exit → Act → World → Prop} (hgd : o.guard = none) (sl x : Operand)
    (ho : o.op = .call { callee := .builtin .append, args := #[sl, x], argTypes := #[35, 35] }) (g : Nat) (l : List Cl) (r : List Value) (hs : a.eval sl = .slice (some ⟨g, 0, none⟩) l.length l.length) (N : Nat) (y z : Cl) (hx : a.eval x = .slice (some ⟨N, 0, none⟩) 2 2) (hn : l.length ≤ 1000000000) (hb : RowK W g l r) (hy : Two W N y z)
    (h : ∀ v' w', Kw W.heap.size w' v' (l ++ [y, z]) → W.grownBy w' none → wpList Try.prog ops Q rest (a.put o.dst v') w') : wpList Try.prog ops Q (o :: rest) a W := by
  obtain ⟨i0, hi, hz0, hz1, hz2⟩ := infoP Try.info_cell
  refine wpList_append_grows W hgd sl x 35 ho 64 i0 _ 3 32 Try.underlying35 hi hz0 hz1 hz2 rfl (by decide) (some ⟨g, 0, none⟩) l.length l.length (kv l) hs (fun e => by cases e) (kv_length l) ?_ ⟨N, 0, none⟩ 2 2 (kv [y, z]) hx rfl hy.get (kv_one _) (by omega) (by unfold maxLen; omega) (by omega) ?_
  · intro b e j u hj
    cases e
    have hb' : W.heap[g]? = some (.cells (kv l ++ r).toArray 64 (0, 0)) := hb
    rw [Addr.add_lit, Nat.zero_add, cell_of_row W g j _ _ (0, 0) hb']
    have hlt : j < (kv l).length := by
      rcases Nat.lt_or_ge j (kv l).length with h1 | h1
      · exact h1
      · rw [List.getElem?_eq_none h1] at hj; cases hj
    simp only [List.getElem?_toArray]
    rw [List.getElem?_append_left hlt]
    exact hj
  · intro v' w' hown hgr
    refine h v' w' ?_ hgr
    unfold Kw
    rw [kv_append, List.length_append]
    exact hown
/-- What may be written over: a row of one's own, or one that is full. -/
def Mine (w : World) (v : Value) (n : Nat) : Prop := (∃ b L, Kw b w v L ∧ L.length = n ∧ b ≤ w.heap.size) ∨ ∃ g L rest, v = .slice (some ⟨g, 0, none⟩) n n ∧ L.length = n ∧ RowK w g L rest
theorem Ko.mine {w w' : World} {u : Value} {L : List Cl} (h : Ko w w' u L) : Mine w' u L.length := by
  rcases h with ⟨rfl, rfl⟩ | ⟨g, rest, rfl, h2, h3⟩
  · exact Or.inl ⟨w'.heap.size, [], kw_nil _ _, rfl, Nat.le_refl _⟩
  · exact Or.inr ⟨g, L, rest, rfl, rfl, h3⟩
theorem Kw.mine {b : Nat} {w : World} {u : Value} {L : List Cl} (h : Kw b w u L) (hb : b ≤ w.heap.size) : Mine w u L.length := Or.inl ⟨b, L, h, rfl, hb⟩
theorem Mine.fr {w w' : World} {S : Nat → Prop} {v : Value} {n : Nat} (h : Mine w v n) (hf : Fr w w' S) (hS : ∀ k, v.ownBlock = some k → ¬ S k) : Mine w' v n := by
  rcases h with ⟨b, L, h1, h2, h3⟩ | ⟨g, L, rest, rfl, h2, h3⟩
  · exact Or.inl ⟨b, L, h1.fr hf hS, h2, Nat.le_trans h3 hf.size⟩
  · exact Or.inr ⟨g, L, rest, rfl, h2, h3.fr hf (hS g rfl)⟩
def spK : ByteArray := ⟨#[115, 112, 111, 105, 108, 116]⟩
theorem fr_row3 {w W : World} {g i : Nat} {S : Nat → Prop} (h : Fr w W S) (hg : g < w.heap.size → S g) (a b c : Value) : Fr w (((W.setCell ⟨g, i, none⟩ a).setCell ⟨g, i + 1, none⟩ b).setCell ⟨g, i + 2, none⟩ c) S :=
  ((h.setCell (p := ⟨g, i, none⟩) hg _).setCell (p := ⟨g, i + 1, none⟩) hg _).setCell (p := ⟨g, i + 2, none⟩) hg _

set_option maxHeartbeats 2000000 in
set_option maxRecDepth 100000 in
theorem spoil_none (w : World) : Calls Try.prog 29 #[.slice none 0 0] w fun e w' => e = .returned (.tuple #[]) ∧ Fr w w' (fun _ => False) := by
  go_enter Try.func29, Try.ntmps29
  go_wp2_with fail
  go_loopg [2] 0 (fun q s2 wx => s2 = .int .i64 0 ∧ Hid (wx = w))
  case atStart => exact ⟨rfl, rfl⟩
  case round =>
    obtain ⟨rfl, HW⟩ := hrel
    obtain rfl := HW.out
    have HT : Hid (Two (wr.alloc (.cells #[.int .i64 1, .string ⟨#[]⟩, .int .i64 0, .int .i64 2, .string ⟨#[]⟩, .int .i64 0] 64)) wr.heap.size ⟨1, ⟨#[]⟩, 0⟩ ⟨2, ⟨#[]⟩, 0⟩) := heap_last _ _ _ rfl
    have HF := hid (alloc_fr wr (.cells #[.int .i64 1, .string ⟨#[]⟩, .int .i64 0, .int .i64 2, .string ⟨#[]⟩, .int .i64 0] 64) (fun _ => False))
    go_wp2_with (at_builtin; go_must (refine wpl_kw2 rfl (.tmp 13) (.tmp 16) rfl (.slice none 0 0) [] rfl wr.heap.size ⟨1, ⟨#[]⟩, 0⟩ ⟨2, ⟨#[]⟩, 0⟩ rfl (by decide) (kw_nil _ _) HF.out.size HT.out ?_))
    intro v' w6 hK hg _
    have HF6 : Hid (Fr wr w6 (fun _ => False)) := HF.out.trans ((fr_own hg).mono (fun _ _ h => by simp [Value.ownBlock] at h))
    have hb6 := HF.out.size
    rcases hK.row with ⟨_, h0⟩ | ⟨g, cap, rest, rfl, h1, h2, h3, hrow, h5⟩
    · cases h0
    · obtain ⟨d0, d1, d2⟩ := hrow.get (i := 0) (by decide)
      have f0 := hrow.free 0
      have f1 := hrow.free 1
      have f2 := hrow.free 2
      have hgl := hrow.lt
      have HG3 := hid h3
      have e2 : ([(⟨1, ⟨#[]⟩, 0⟩ : Cl), (⟨2, ⟨#[]⟩, 0⟩ : Cl)] : List Cl).length = 2 := rfl
      rw [e2]
      simp only [Nat.zero_mul, Nat.zero_add] at d0 d1 d2
      clear hK hg hrow h1 h2 h3 h5 e2
      go_wp2_with fail
      go_end0
      exact ⟨rfl, fr_row3 HF6.out (fun h => by have := HG3.out; omega) _ _ _⟩

set_option maxHeartbeats 4000000 in
set_option maxRecDepth 100000 in
theorem spoil_row {g cap : Nat} {L : List Cl} {rest : List Value} (w : World) (h : RowK w g L rest) (hL : L.length ≤ 1000000) (hc : cap = L.length ∨ (rest.length + L.length * 3 = cap * 3 ∧ L.length ≤ cap ∧ cap ≤ maxLen)) :
    Calls Try.prog 29 #[.slice (some ⟨g, 0, none⟩) L.length cap] w fun e w' => e = .returned (.tuple #[]) ∧ Fr w w' (fun k => k = g) := by
  have HC := hid hc
  have HR := hid h
  have HGL := hid h.lt
  clear hc h
  obtain ⟨n, hn⟩ : ∃ n, n = L.length := ⟨_, rfl⟩
  rw [← hn] at HC hL ⊢
  have HLN : Hid (L.length = n) := hn.symm
  clear hn
  go_enter Try.func29, Try.ntmps29
  go_wp2_with fail
  go_loopg [2] n (fun q s2 wx => ∃ i : Nat, s2 = .int .i64 (i : Int) ∧ Hid (i + q = n) ∧ Hid (∃ L : List Cl, L.length = n ∧ RowK wx g L rest) ∧ Hid (Fr w wx (fun k => k = g)))
  case atStart => exact ⟨0, rfl, by show _ = _; omega, ⟨L, HLN.out, HR.out⟩, Fr.refl _ _⟩
  case round =>
    obtain ⟨i, rfl, HG, HX, HF⟩ := hrel
    clear HR HLN
    obtain ⟨L1, hL1, hrow⟩ := HX.out
    have HROW := hid hrow
    have HL1 := hid hL1
    clear HX hrow hL1
    cases gk with
    | succ q =>
      have hi : i < n := by have := HG.out; omega
      have t1 : (i : Int) < (n : Int) := by omega
      have hi1 : i < L1.length := by have := HL1.out; omega
      obtain ⟨d0, d1, d2⟩ := HROW.out.get hi1
      have f0 := HROW.out.free (i * 3)
      have f1 := HROW.out.free (i * 3 + 1)
      have f2 := HROW.out.free (i * 3 + 2)
      have hgl := HROW.out.lt
      have HST := hid (HROW.out.set hi1 ⟨0, spK, 0⟩)
      have HFS : Hid (∀ a b c : Value, Fr w (((wr.setCell ⟨g, i * 3, none⟩ a).setCell ⟨g, i * 3 + 1, none⟩ b).setCell ⟨g, i * 3 + 2, none⟩ c) (fun k => k = g)) := fun a b c => fr_row3 HF.out (fun _ => rfl) a b c
      clear hi1
      unfold spK at HST
      generalize (L1[i]?.getD default).v = x0 at *
      generalize (L1[i]?.getD default).k = x1 at *
      generalize (L1[i]?.getD default).s = x2 at *
      go_wp2_with fail
      go_roundg q
      case measure => omega
      case rel => exact ⟨i + 1, by go_num, by have := HG.out; show _ = _; omega, ⟨_, by rw [List.length_set]; exact HL1.out, HST.out⟩, HFS.out _ _ _⟩
    | zero =>
      have t1 : ¬ (i : Int) < (n : Int) := by have := HG.out; omega
      have HT : Hid (Two (wr.alloc (.cells #[.int .i64 1, .string ⟨#[]⟩, .int .i64 0, .int .i64 2, .string ⟨#[]⟩, .int .i64 0] 64)) wr.heap.size ⟨1, ⟨#[]⟩, 0⟩ ⟨2, ⟨#[]⟩, 0⟩) := heap_last _ _ _ rfl
      have HFA := hid (alloc_fr wr (.cells #[.int .i64 1, .string ⟨#[]⟩, .int .i64 0, .int .i64 2, .string ⟨#[]⟩, .int .i64 0] 64) (fun _ => False))
      have HRA := hid (HROW.out.fr HFA.out (fun h => h))
      have HFB : Hid (Fr w (wr.alloc (.cells #[.int .i64 1, .string ⟨#[]⟩, .int .i64 0, .int .i64 2, .string ⟨#[]⟩, .int .i64 0] 64)) (fun k => k = g)) := HF.out.alloc _
      obtain rfl : n = L1.length := HL1.out.symm
      rcases HC.out with hc | ⟨hc1, hc2, hc3⟩
      · subst hc
        clear HC
        go_wp2_with (at_builtin; go_must (refine wpl_ko2 rfl (.tmp 13) (.tmp 16) rfl g L1 rest rfl wr.heap.size ⟨1, ⟨#[]⟩, 0⟩ ⟨2, ⟨#[]⟩, 0⟩ rfl (by omega) HRA.out HT.out ?_))
        intro v' w6 hK hg
        have HF6 : Hid (Fr w w6 (fun k => k = g)) := HFB.out.trans2 (⟨hg.os, hg.tape, hg.output, hg.size, fun i hi _ => hg.block i hi (by simp)⟩ : Fr _ w6 (fun _ => False)) (fun _ _ h => h.elim)
        have hb6 : w.heap.size ≤ wr.heap.size := HF.out.size
        rcases hK.row with ⟨_, h0⟩ | ⟨g2, cap2, rest2, rfl, h1, h2, h3, hrow, h5⟩
        · simp at h0
        · have hl2 : (L1 ++ [⟨1, ⟨#[]⟩, 0⟩, ⟨2, ⟨#[]⟩, 0⟩] : List Cl).length = L1.length + 2 := by simp
          rw [hl2]
          obtain ⟨d0, d1, d2⟩ := hrow.get (i := 0) (by rw [hl2]; omega)
          have f0 := hrow.free 0
          have f1 := hrow.free 1
          have f2 := hrow.free 2
          have hgl := hrow.lt
          have HG3 := hid h3
          have t2 : (0 : Int) < ((L1.length + 2 : Nat) : Int) := by omega
          simp only [Nat.zero_mul, Nat.zero_add] at d0 d1 d2
          generalize ((L1 ++ [⟨1, ⟨#[]⟩, 0⟩, ⟨2, ⟨#[]⟩, 0⟩] : List Cl)[0]?.getD default) = y at *
          clear hK hg hrow h1 h2 h3 h5 hl2
          go_wp2_with fail
          go_end0
          exact ⟨rfl, fr_row3 HF6.out (fun h => by have := HG3.out; omega) _ _ _⟩
      · have HKA : Hid (Kw 0 (wr.alloc (.cells #[.int .i64 1, .string ⟨#[]⟩, .int .i64 0, .int .i64 2, .string ⟨#[]⟩, .int .i64 0] 64)) (.slice (some ⟨g, 0, none⟩) L1.length cap) L1) := HRA.out.kw hc2 hc3 (Nat.zero_le _) hc1
        clear HC
        go_wp2_with (at_builtin; go_must (refine wpl_kw2 rfl (.tmp 13) (.tmp 16) rfl (.slice (some ⟨g, 0, none⟩) L1.length cap) L1 rfl wr.heap.size ⟨1, ⟨#[]⟩, 0⟩ ⟨2, ⟨#[]⟩, 0⟩ rfl (by omega) HKA.out (Nat.zero_le _) HT.out ?_))
        intro v' w6 hK hg hat
        have HF6 : Hid (Fr w w6 (fun k => k = g)) := HFB.out.trans ((fr_own hg).mono (fun _ _ h => by simp [Value.ownBlock] at h; exact h.symm))
        have hb6 : w.heap.size ≤ wr.heap.size := HF.out.size
        rcases hK.row with ⟨_, h0⟩ | ⟨g2, cap2, rest2, rfl, h1, h2, h3, hrow, h5⟩
        · simp at h0
        · have hl2 : (L1 ++ [⟨1, ⟨#[]⟩, 0⟩, ⟨2, ⟨#[]⟩, 0⟩] : List Cl).length = L1.length + 2 := by simp
          rw [hl2]
          obtain ⟨d0, d1, d2⟩ := hrow.get (i := 0) (by rw [hl2]; omega)
          have f0 := hrow.free 0
          have f1 := hrow.free 1
          have f2 := hrow.free 2
          have hgl := hrow.lt
          have HG3 : Hid (g2 < w.heap.size → g2 = g) := fun hlt => by
            rcases hat with h | h
            · simpa [Value.ownBlock] using h
            · simp [Value.ownBlock] at h; omega
          have t2 : (0 : Int) < ((L1.length + 2 : Nat) : Int) := by omega
          simp only [Nat.zero_mul, Nat.zero_add] at d0 d1 d2
          generalize ((L1 ++ [⟨1, ⟨#[]⟩, 0⟩, ⟨2, ⟨#[]⟩, 0⟩] : List Cl)[0]?.getD default) = y at *
          clear hK hg hrow h1 h2 h3 h5 hl2 hat HKA
          go_wp2_with fail
          go_end0
          exact ⟨rfl, fr_row3 HF6.out HG3.out _ _ _⟩
/-- What may be written over is written over, and nothing else turns. -/
theorem spoil_any {w : World} {v : Value} {n : Nat} (h : Mine w v n) (hn : n ≤ 1000000) : Calls Try.prog 29 #[v] w fun e w' => e = .returned (.tuple #[]) ∧ Fr w w' (fun k => v.ownBlock = some k) := by
  rcases h with ⟨b, L, h1, rfl, _⟩ | ⟨g, L, rest, rfl, rfl, h3⟩
  · rcases h1.row with ⟨rfl, rfl⟩ | ⟨g, cap, rest, rfl, h1, h2, h3, hrow, h5⟩
    · exact (spoil_none w).mono fun e w' ⟨he, hf⟩ => ⟨he, hf.mono (fun _ _ h => h.elim)⟩
    · exact (spoil_row w hrow hn (Or.inr ⟨h5, h1, h2⟩)).mono fun e w' ⟨he, hf⟩ => ⟨he, hf.mono (fun _ _ h => by rw [h]; rfl)⟩
  · exact (spoil_row w h3 hn (Or.inl rfl)).mono fun e w' ⟨he, hf⟩ => ⟨he, hf.mono (fun _ _ h => by rw [h]; rfl)⟩
end Go.Proofs.Ytglkjhpkeelajaa.V
