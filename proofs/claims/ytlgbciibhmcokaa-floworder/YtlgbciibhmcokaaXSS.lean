/- Lists of records that a slice of slices holds, each in a row of its own. -/
import Derived.Test.YtlgbciibhmcokaaXKnown
import Derived.Laws.AppendOwnNone
import Derived.Deep.RegionLaw
namespace Go.Proofs.Ytlgbciibhmcokaa
open Go.RowKit

/-- A kind of record: its cells, its type, its slice's type. -/
structure Kd {α : Type} (f : α → List Value) (T TS : TypeId) (K : Nat) : Prop where
  under : Try.prog.underlying TS = some (.slice T)
  info : ∃ i z by', Try.prog.info? T = some i ∧ i.zero = some z ∧ i.size = K ∧ i.bytes = by' ∧ z.cells.size = K ∧ by' ≤ 100
  pos : 0 < K
  len : ∀ x, (f x).length = K
  one : ∀ x, ∀ u ∈ f x, u.oneCell' = true
  ne : T ≠ TS
theorem kdI : Kd elI 33 45 4 := ⟨Try.underlying45, by
  obtain ⟨i, h1, h2, h3, h4⟩ := infoP RI.Try.info_el
  exact ⟨i, _, _, h1, h2, h3, h4, rfl, by decide⟩, by decide, elI_len, elI_one, by decide⟩
theorem Try.info_rm : (Try.prog.info? 94).map (fun i => (i.zero, i.size, i.bytes)) = some (some (.agg #[.int .i64 0, .bool false, .string ⟨#[]⟩, .int .i64 0, .int .i64 0]), 5, 48) := by kernel_rfl
theorem kdM : Kd elM 94 93 5 := ⟨Try.underlying93, by
  obtain ⟨i, h1, h2, h3, h4⟩ := infoP Try.info_rm
  exact ⟨i, _, _, h1, h2, h3, h4, rfl, by decide⟩, by decide, elM_len, elM_one, by decide⟩
theorem Try.info_tk : (Try.prog.info? 52).map (fun i => (i.zero, i.size, i.bytes)) = some (some (.agg #[.int .i64 0, .bool false, .string ⟨#[]⟩, .int .i64 0, .int .i64 0]), 5, 48) := by kernel_rfl
theorem kdT : Kd elM 52 50 5 := ⟨Try.underlying50, by
  obtain ⟨i, h1, h2, h3, h4⟩ := infoP Try.info_tk
  exact ⟨i, _, _, h1, h2, h3, h4, rfl, by decide⟩, by decide, elM_len, elM_one, by decide⟩
/-- append of records to an owned row, at an operation. -/
theorem wp_app {α : Type} {f : α → List Value} {T TS : TypeId} {Kc : Nat} (kd : Kd f T TS Kc) {W : World} {o : Oper} {a : Act} {K : Act → World → Prop} {Q : Exit → Act → World → Prop} (s x : Operand)
    (ho : o.op = .call { callee := .builtin .append, args := #[s, x], argTypes := #[TS, TS] }) {lo : Nat} {v : Value} {L : List α} (hs : a.eval s = v) (hown : W.ownsRow lo T Kc v L.length (fl f L))
    (ad : Addr) (m c : Nat) (N : List α) (hx : a.eval x = .slice (some ad) m c) (hm : N.length = m) (hN : ∀ j u, (fl f N)[j]? = some u → W.cell? (ad.add j) = some u) (hl : L.length + m ≤ 1000000) (hlo : lo ≤ W.heap.size) (n' : Nat) (hn' : L.length + m = n')
    (h : ∀ ao cap w', Hid (w'.ownsRow lo T Kc (.slice ao n' cap) (L ++ N).length (fl f (L ++ N))) → Hid (Fr W w' (fun k => v.ownBlock = some k)) → Hid (Nw W v (.slice ao n' cap)) → K (a.put o.dst (.slice ao n' cap)) w') : o.wp Try.prog a W K Q := by
  obtain ⟨i, z, by', hi, hz, hsz, hby, hzs, hb⟩ := kd.info
  have hb2 : (L.length + m) * by' ≤ 140737488355328 := Nat.le_trans (Nat.mul_le_mul hl hb) (by decide)
  obtain ⟨v', w', hr, h2, h3, _, h5⟩ := run_append_own_at (P := Try.prog) W lo TS o.type T i z Kc by' kd.under hi hz hsz hby hzs kd.pos v L.length (fl f L) hown ad m c (fl f N) (by rw [fl_length kd.len, hm]) hN (fl_one kd.one N) (by unfold maxLen; omega) hb2 hlo
  have h2' : w'.ownsRow lo T Kc v' (L ++ N).length (fl f (L ++ N)) := by rw [fl_append, List.length_append, hm]; exact h2
  obtain ⟨ao, cap, hv⟩ := own_nil_shape h2'
  rw [List.length_append, hm, hn'] at hv
  subst hv
  unfold Oper.wp execOp
  simp only [ho, resolve, invoke, builtin, Sem.run_bind, Sem.run_pure, Result.andThen_ok, List.map_toArray, List.map_cons, List.map_nil, hs, hx, hr]
  exact h ao cap w' h2' (Fr.grown (Fr.refl W _) h3 (fun k _ e => e)) (Nw.of h5 (Nat.le_refl _))
/-- The same as a step of a region that draws. -/
theorem step_app {α : Type} {f : α → List Value} {T TS : TypeId} {Kc : Nat} (kd : Kd f T TS Kc) {W : World} {ops : Array Oper} {o : Oper} {a : Act} {K : Act → World → Prop} {Q : Exit → Act → World → Prop} {E : Prop} (hgd : o.guard = none) (s x : Operand)
    (ho : o.op = .call { callee := .builtin .append, args := #[s, x], argTypes := #[TS, TS] }) {lo : Nat} {v : Value} {L : List α} (hs : a.eval s = v) (hown : W.ownsRow lo T Kc v L.length (fl f L))
    (ad : Addr) (m c : Nat) (N : List α) (hx : a.eval x = .slice (some ad) m c) (hm : N.length = m) (hN : ∀ j u, (fl f N)[j]? = some u → W.cell? (ad.add j) = some u) (hl : L.length + m ≤ 1000000) (hlo : lo ≤ W.heap.size) (n' : Nat) (hn' : L.length + m = n')
    (h : ∀ ao cap w', Hid (w'.ownsRow lo T Kc (.slice ao n' cap) (L ++ N).length (fl f (L ++ N))) → Hid (Fr W w' (fun k => v.ownBlock = some k)) → Hid (Nw W v (.slice ao n' cap)) → K (a.put o.dst (.slice ao n' cap)) w') : if Region.wanted o (yielded ops a.tmps) = true then Oper.wp Try.prog o a W K Q else E := by
  have hw : Region.wanted o (yielded ops a.tmps) = true := by simp [Region.wanted, hgd]
  rw [if_pos hw]
  exact wp_app kd s x ho hs hown ad m c N hx hm hN hl hlo n' hn' h
def nil3 : Value := .slice none 0 0
/-- Lists, each in a row of its own, their slices in block Q. -/
structure SS {α : Type} (f : α → List Value) (T TS : TypeId) (K lo : Nat) (W : World) (Q : Nat) (vs : List Value) (Ls : List (List α)) : Prop where
  row : W.heap[Q]? = some (.cells vs.toArray TS (0, 0))
  len : vs.length = Ls.length
  own : ∀ i, i < vs.length → W.ownsRow lo T K (vs.getD i nil3) (Ls.getD i []).length (fl f (Ls.getD i []))
  ap : ∀ i j k, i < vs.length → j < vs.length → (vs.getD i nil3).ownBlock = some k → (vs.getD j nil3).ownBlock = some k → i = j
theorem SS.fr {α : Type} {f : α → List Value} {T TS : TypeId} {K lo : Nat} {W W' : World} {S : Nat → Prop} {Q : Nat} {vs : List Value} {Ls : List (List α)} (h : SS f T TS K lo W Q vs Ls) (hf : Fr W W' S) (hQ : ¬ S Q) (hv : ∀ i k, i < vs.length → (vs.getD i nil3).ownBlock = some k → ¬ S k) : SS f T TS K lo W' Q vs Ls :=
  ⟨keep_block h.row hf hQ, h.len, fun i hi => own_fr (h.own i hi) hf (fun k hk => hv i k hi hk), h.ap⟩
theorem SS.still {α : Type} {f : α → List Value} {T TS : TypeId} {K lo : Nat} {W W' : World} {Q : Nat} {vs : List Value} {Ls : List (List α)} (h : SS f T TS K lo W Q vs Ls) (hf : Fr W W' (fun _ => False)) : SS f T TS K lo W' Q vs Ls := h.fr hf (fun h => h) (fun _ _ _ _ h => h)
theorem SS.cell {α : Type} {f : α → List Value} {T TS : TypeId} {K lo : Nat} {W : World} {Q : Nat} {vs : List Value} {Ls : List (List α)} (h : SS f T TS K lo W Q vs Ls) {i : Nat} (hi : i < vs.length) : ∃ ao cap, vs.getD i nil3 = .slice ao (Ls.getD i []).length cap ∧ W.cell? ⟨Q, i, none⟩ = some (.slice ao (Ls.getD i []).length cap) := by
  obtain ⟨ao, cap, hv⟩ := own_nil_shape (h.own i hi)
  refine ⟨ao, cap, hv, ?_⟩
  rw [cell_of_row W Q _ _ _ (0, 0) h.row, ← hv]
  simp [List.getD, hi]
theorem SS.nq {α : Type} {f : α → List Value} {T TS : TypeId} {K lo : Nat} {W : World} {Q : Nat} {vs : List Value} {Ls : List (List α)} (h : SS f T TS K lo W Q vs Ls) (hne : T ≠ TS) {i : Nat} (hi : i < vs.length) : (vs.getD i nil3).ownBlock ≠ some Q := own_ne (h.own i hi) h.row (fun e => hne e.symm)
/-- A list is put in another's place. -/
theorem SS.set {α : Type} {f : α → List Value} {T TS : TypeId} {K lo : Nat} {W W1 : World} {Q : Nat} {vs : List Value} {Ls : List (List α)} (h : SS f T TS K lo W Q vs Ls) (hne : T ≠ TS) {i : Nat} (hi : i < vs.length) (hf : Fr W W1 (fun k => (vs.getD i nil3).ownBlock = some k)) {v' : Value} {L' : List α} (ho : W1.ownsRow lo T K v' L'.length (fl f L')) (hn : Nw W (vs.getD i nil3) v') :
    (∃ u, W1.cell? ⟨Q, i, none⟩ = some u) ∧ W1.frozen? ⟨Q, i, none⟩ = false ∧ Q < W1.heap.size ∧ SS f T TS K lo (W1.setCell ⟨Q, i, none⟩ v') Q (vs.set i v') (Ls.set i L') ∧ Fr W (W1.setCell ⟨Q, i, none⟩ v') (fun k => k = Q ∨ (vs.getD i nil3).ownBlock = some k) := by
  have hQ1 := keep_block h.row hf (h.nq hne hi)
  have hfs := set_fr W1 Q i v'
  have hQ : Q < W.heap.size := lt_of_block h.row
  have hv'Q : v'.ownBlock ≠ some Q := fun e => by
    rcases hn Q e with h' | h'
    · exact h.nq hne hi h'
    · omega
  have hlen : (vs.set i v').length = vs.length := List.length_set
  refine ⟨⟨vs.getD i nil3, by rw [cell_of_row W1 Q _ _ _ (0, 0) hQ1]; simp [List.getD, hi]⟩, free_of hQ1 i, lt_of_block hQ1, ⟨?_, ?_, ?_, ?_⟩, ?_⟩
  · rw [heap_setCell_same W1 Q i _ _ v' hQ1]
    simp
  · rw [hlen, List.length_set]; exact h.len
  · intro j hj
    rw [hlen] at hj
    rw [getD_set_if hi, getD_set_if (by rw [← h.len]; exact hi)]
    split
    · exact own_fr ho hfs (fun k hk e => hv'Q (by rw [hk, e]))
    · rename_i hne2
      refine own_fr (own_fr (h.own j hj) hf (fun k hk e => hne2 (h.ap j i k hj hi hk e))) hfs (fun k hk e => h.nq hne hj (by rw [hk, e]))
  · intro a b k ha hb hka hkb
    rw [hlen] at ha hb
    rw [getD_set_if hi] at hka hkb
    have key : ∀ j, j < vs.length → j ≠ i → (vs.getD j nil3).ownBlock = some k → v'.ownBlock = some k → False := by
      intro j hj hne2 h1 h2
      rcases hn k h2 with h3 | h3
      · exact hne2 (h.ap j i k hj hi h1 h3)
      · have := own_lt (h.own j hj) h1; omega
    split at hka <;> split at hkb
    · omega
    · exact (key b hb (by assumption) hkb hka).elim
    · exact (key a ha (by assumption) hka hkb).elim
    · exact h.ap a b k ha hb hka hkb
  · exact (hf.mono (fun _ _ e => Or.inr e)).trans2 hfs (fun _ _ e => Or.inl e)
/-- The records of an owned row, as cells. -/
theorem own_src {α : Type} {f : α → List Value} {T : TypeId} {K lo : Nat} (hlen : ∀ x, (f x).length = K) {W : World} {g n cap : Nat} {L : List α} (h : W.ownsRow lo T K (.slice (some ⟨g, 0, none⟩) n cap) L.length (fl f L)) : ∀ j u, (fl f L.tail)[j]? = some u → W.cell? ((⟨g, K, none⟩ : Addr).add j) = some u := by
  intro j u hj
  have hc := h.cells (g := g) rfl
  cases L with
  | nil => simp [fl] at hj
  | cons x L =>
    have h1 := hc (K + j) u (by
      rw [fl_cons, List.getElem?_append_right (by rw [hlen]; omega), hlen, show K + j - K = j by omega]
      exact hj)
    rw [Addr.add_lit] at h1 ⊢
    simpa using h1
theorem own_head {α : Type} {f : α → List Value} {T : TypeId} {K lo : Nat} {W : World} {g n cap : Nat} {x : α} {L : List α} (h : W.ownsRow lo T K (.slice (some ⟨g, 0, none⟩) n cap) (x :: L).length (fl f (x :: L))) : ∀ j u, (f x)[j]? = some u → W.cell? ⟨g, j, none⟩ = some u := by
  intro j u hj
  have hj2 : j < (f x).length := by
    rcases Nat.lt_or_ge j (f x).length with h' | h'
    · exact h'
    · rw [List.getElem?_eq_none h'] at hj; cases hj
  have h1 := h.cells (g := g) rfl j u (by rw [fl_cons, List.getElem?_append_left hj2]; exact hj)
  rw [Addr.add_lit] at h1
  simpa using h1
/-- An owned row that is not empty: its block and room. -/
theorem own_some {α : Type} {f : α → List Value} {T : TypeId} {K lo : Nat} {W : World} {v : Value} {x : α} {L : List α} (h : W.ownsRow lo T K v (x :: L).length (fl f (x :: L))) : ∃ g cap, v = .slice (some ⟨g, 0, none⟩) (L.length + 1) cap ∧ L.length + 1 ≤ cap ∧ cap ≤ 9223372036854775807 ∧ g < W.heap.size := by
  rcases h.2 with ⟨rfl, h0⟩ | ⟨g, cap, cur, rfl, hb, hg, hn, hm, _⟩
  · simp at h0
  · exact ⟨g, cap, rfl, hn, by unfold maxLen at hm; omega, lt_of_block hg⟩
end Go.Proofs.Ytlgbciibhmcokaa
