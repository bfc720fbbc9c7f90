/- OperOpen: what a step does to what is live, as lists; one operator and the cells that went. -/
import Derived.Test.YtglkjhpkeelajaaVMany
import Derived.Laws.AppendOwnNone
namespace Go.Proofs.Ytglkjhpkeelajaa.V
open Go.RowKit Go.Maps
open M (Cl cmpC vC)

theorem wroteL_mem {vs : List Vw} {m : Int} {cs L : List Cl} {c : Cl} (h : c ∈ L) : c ∈ wroteL vs m cs L := by
  unfold wroteL
  split
  · exact mem_insAll.2 (Or.inr h)
  · exact h
theorem doS_least {vs : List Vw} {st : Os2} (h : OkM st.ms) (y : Sf) : leastL st.ms ≤ leastL (doS vs st y).ms := by
  unfold doS
  split
  · split <;> exact Int.le_refl _
  · split
    · exact least_rise h _ _
    · split <;> exact Int.le_refl _
theorem goS_mem {vs : List Vw} {st : Os2} {y : Sf} {c : Cl} (h : c ∈ goS vs st y) : c ∈ st.L ∧ shK vs (leastL (doS vs st y).ms) c = true := by
  unfold goS at h
  by_cases k2 : y.k = 2
  · rw [if_pos k2] at h
    have hm := List.mem_filter.1 h
    have e : (doS vs st y).ms = riseS st.ms y.s y.t := by unfold doS; rw [if_neg (by omega), if_pos k2]
    rw [e]
    exact ⟨hm.1, hm.2⟩
  · rw [if_neg k2] at h; cases h
theorem goS_ri {vs : List Vw} {st : Os2} {y : Sf} (h : Ri st.L) : Ri (goS vs st y) := by
  unfold goS
  split
  · exact ri_filter h _
  · exact List.Pairwise.nil
theorem doS_stay {vs : List Vw} {st : Os2} {y : Sf} {c : Cl} (h : c ∈ st.L) : decide (c ∈ (doS vs st y).L) = !decide (c ∈ goS vs st y) := by
  by_cases k2 : y.k = 2
  · have e1 : (doS vs st y).L = leftL vs (leastL (riseS st.ms y.s y.t)) st.L := by unfold doS; rw [if_neg (by omega), if_pos k2]
    have e2 : goS vs st y = goneL vs (leastL (riseS st.ms y.s y.t)) st.L := by unfold goS; rw [if_pos k2]
    rw [e1, e2]
    unfold leftL goneL
    rcases hs : shK vs (leastL (riseS st.ms y.s y.t)) c with _ | _ <;> simp [List.mem_filter, h, hs]
  · have e2 : goS vs st y = [] := by unfold goS; rw [if_neg k2]
    have e1 : c ∈ (doS vs st y).L := by
      unfold doS
      split
      · split
        · exact wroteL_mem h
        · exact h
      · split
        · exact wroteL_mem h
        · exact h
    rw [e2]
    simp [e1]
theorem takeL_open {vs : List Vw} {m : Int} {key : ByteArray} {t : Int} {c : Cl} (h : c ∈ takeL vs m key t) : shK vs m c = false ∧ c.k = key ∧ takeB vs m key t = false := by
  unfold takeL at h
  rcases hk : keyB key with _ | _
  · rw [hk] at h; simp at h
  · rw [hk, if_pos rfl] at h
    unfold keyed at h
    obtain ⟨d, hd, rfl⟩ := List.mem_map.1 h
    unfold opnL at hd
    by_cases hz : chkN vs t = 0
    · rw [if_pos hz] at hd
      have hf := (List.mem_filter.1 hd).2
      refine ⟨?_, rfl, ?_⟩
      · simp only [Bool.not_eq_true'] at hf
        unfold shK
        unfold shutC at hf
        simpa using hf
      · unfold takeB opnB
        rw [hk, if_pos rfl, if_pos hz]
        have : 0 < (opL vs m (winL vs t)).length := List.length_pos_iff.2 (fun e => by rw [e] at hd; cases hd)
        rw [decide_eq_false (by omega : ¬ (opL vs m (winL vs t)).length = 0)]
        rfl
    · rw [if_neg hz] at hd; cases hd

/-- Append of a row of one's own to another. -/
theorem wpl_kwk {W : World} {bn b2 : Nat} {ops : Array Oper} {rest : List Oper} {o : Oper} {a : Act} {Q : Exit → Act → World → Prop} (hgd : o.guard = none) (sl x : Operand)
    (ho : o.op = .call { callee := .builtin .append, args := #[sl, x], argTypes := #[35, 35] }) (v : Value) (l : List Cl) (hs : a.eval sl = v) (u : Value) (ys : List Cl) (hx : a.eval x = u) (hu : Kw b2 W u ys) (hn : l.length + ys.length ≤ 1000000000) (hb : Kw bn W v l) (hbs : bn ≤ W.heap.size)
    (h : ∀ v' w', Kw bn w' v' (l ++ ys) → W.grownBy w' v.ownBlock → wpList Try.prog ops Q rest (a.put o.dst v') w') : wpList Try.prog ops Q (o :: rest) a W := by
  obtain ⟨i0, hi, hz0, hz1, hz2⟩ := infoP Try.info_cell
  rcases hu.row with ⟨rfl, rfl⟩ | ⟨g, cap, r, rfl, h1, h2, h3, hrow, h5⟩
  · refine wpList_append_own_none hgd sl x 35 ho bn 64 i0 3 Try.underlying35 hi v l.length (kv l) hs hb hx ?_
    exact h v W (by rw [List.append_nil]; exact hb) ⟨rfl, rfl, rfl, Nat.le_refl _, fun _ _ _ => rfl⟩
  · refine wpList_append_own_at W hgd sl x 35 ho bn 64 i0 _ 3 32 Try.underlying35 hi hz0 hz1 hz2 rfl (by decide) v l.length (kv l) hs hb ⟨g, 0, none⟩ ys.length cap (kv ys) hx (kv_length ys) ?_ (kv_one ys) (by unfold maxLen; omega) (by omega) hbs ?_
    · intro j u hj
      have hb' : W.heap[g]? = some (.cells (kv ys ++ r).toArray 64 (0, 0)) := hrow
      rw [Addr.add_lit, Nat.zero_add, cell_of_row W g j _ _ (0, 0) hb']
      have hlt : j < (kv ys).length := by
        rcases Nat.lt_or_ge j (kv ys).length with h1 | h1
        · exact h1
        · rw [List.getElem?_eq_none h1] at hj; cases hj
      simp only [List.getElem?_toArray]
      rw [List.getElem?_append_left hlt]
      exact hj
    · intro v' w' hown hgr _ hat
      refine h v' w' ?_ hgr
      unfold Kw
      rw [kv_append, List.length_append]
      exact hown
/-- A row of cells is none of an operator's blocks. -/
theorem Op.nek {W : World} {x : Ox} {vs : List Vw} {ms : List Int} {L : List Cl} (ho : Op W x vs ms L) {b : Nat} {v : Value} {G : List Cl} (h : Kw b W v G) {k : Nat} (hk : v.ownBlock = some k) : k ≠ x.B ∧ k ≠ x.mb ∧ k ≠ x.Bm ∧ k ≠ x.gm ∧ k ≠ x.gv := by
  obtain ⟨_, cs, hcs⟩ := h.cells hk
  obtain ⟨n1, n2, n3, n4⟩ := ho.os.ne_cells hcs
  obtain ⟨es, cl, hm⟩ := ho.map.isMap
  refine ⟨fun e => n1 e.symm, fun e => ?_, fun e => n2 e.symm, fun e => n3 e.symm, fun e => n4 e.symm⟩
  rw [e, hm] at hcs
  cases hcs
/-- A row of cells stays under a step. -/
theorem Kw.done {W W' : World} {x : Ox} {vs : List Vw} {ms : List Int} {L : List Cl} {b : Nat} {v : Value} {G : List Cl} (h : Kw b W v G) (ho : Op W x vs ms L) (hf : Fr W W' (fun b => b = x.gm ∨ b = x.mb)) : Kw b W' v G :=
  h.fr hf (fun k hk e => by
    obtain ⟨_, n2, _, n4, _⟩ := ho.nek h hk
    rcases e with e | e
    · exact n4 e
    · exact n2 e)
/-- An operator, and the cells that went. -/
structure OG (w : World) (x : Ox) (vs : List Vw) (st : Os2) (v : Value) (GL : List Cl) (W : World) : Prop where
  o : O1 w x vs st W
  k : Kw w.heap.size W v GL
  len : GL.length ≤ 50000
  sh : ∀ c ∈ GL, shK vs (leastL st.ms) c = true
theorem OG.step {w : World} {x : Ox} {vs : List Vw} {st : Os2} {v : Value} {GL : List Cl} {W W' : World} (p : OG w x vs st v GL W) (hf : Fr W W' (fun _ => False)) : OG w x vs st v GL W' := ⟨p.o.step hf, p.k.fr hf (fun _ _ h => h), p.len, p.sh⟩
theorem OG.ks {w : World} {x : Ox} {vs : List Vw} {st : Os2} {v : Value} {GL : List Cl} {W : World} (p : OG w x vs st v GL W) : Ks W v GL := p.k.ks (by have := p.len; omega)
theorem shK_up {vs : List Vw} {m m' : Int} (h : m ≤ m') {c : Cl} (hc : shK vs m c = true) : shK vs m' c = true := by
  unfold shK at *
  have := of_decide_eq_true hc
  exact decide_eq_true (by omega)
/-- One step: what went is told, and lies in a row of its own. -/
theorem OG.do {w : World} {x : Ox} {vs : List Vw} {st : Os2} {v : Value} {GL : List Cl} {W : World} (p : OG w x vs st v GL W) (hb : st.L.length ≤ 900000000) {q : Sf} (hk : Ks W q.cv q.cs) (hc : CapOk q.cv) :
    Calls Try.prog 23 #[.pointer (some ⟨x.B, 0, none⟩), sfV q] W fun e w' => ∃ u, e = .returned u ∧ OG w x vs (doS vs st q) v GL w' ∧ Kw W.heap.size w' u (goS vs st q) ∧ Fr W w' (fun b => b = x.gm ∨ b = x.mb) := by
  refine (do_any p.o.a hb hk hc).mono ?_
  rintro e w' ⟨u, rfl, ho, hku, hf⟩
  have hbx := p.o.bx
  unfold Beh at hbx
  refine ⟨u, rfl, ⟨⟨ho, p.o.bx, fr_behind p.o.fr hf (fun k h => by omega)⟩, p.k.done p.o.a hf, p.len, fun c hc => shK_up (doS_least p.o.a.marks.ok q) (p.sh c hc)⟩, hku, hf⟩
/-- The cells that went, more of them. -/
theorem OG.more {w : World} {x : Ox} {vs : List Vw} {st : Os2} {v v' : Value} {GL G : List Cl} {W W' : World} (p : OG w x vs st v GL W) (hg : W.grownBy W' v.ownBlock) (hk : Kw w.heap.size W' v' (GL ++ G)) (hl : (GL ++ G).length ≤ 50000) (hs : ∀ c ∈ G, shK vs (leastL st.ms) c = true) : OG w x vs st v' (GL ++ G) W' := by
  have hf := fr_own hg
  refine ⟨⟨p.o.a.out hf (fun k hk => p.o.a.nek p.k hk), p.o.bx, p.o.fr.trans2 hf (fun i hi e => by have := (p.k.cells e).1; omega)⟩, hk, hl, fun c hc => ?_⟩
  rcases List.mem_append.1 hc with hc | hc
  · exact p.sh c hc
  · exact hs c hc
end Go.Proofs.Ytglkjhpkeelajaa.V
