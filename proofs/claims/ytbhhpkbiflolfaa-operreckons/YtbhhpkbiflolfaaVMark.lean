/- oper: Mark: the walk. -/
import Derived.Test.YtbhhpkbiflolfaaVSortN
import Derived.Maps.AppendAt
namespace Go.Proofs.Ytbhhpkbiflolfaa.V
open Go.RowKit Go.Maps
open M (Cl cmpC cmC cmpC_zero cmpC_flip vC)

/-- A range over the live cells that strikes those of which p is true: L what was there, D what the map reads as, left what is still to come, G what was struck. -/
structure Rg (p : Cl → Bool) (L : List Cl) (D : DataW Unit) (left : Lit → Bool) (G : List Cl) : Prop where
  has : ∀ c, FitC c → Maps.has D (kl c) = decide (c ∈ L ∧ (left (kl c) = true ∨ p c = false))
  inL : ∀ c, FitC c → left (kl c) = true → c ∈ L
  nd : G.Nodup
  mem : ∀ c, c ∈ G ↔ c ∈ L ∧ p c = true ∧ left (kl c) = false
  size : Maps.size D + G.length = L.length
theorem kl_eq {c d : Cl} (hc : FitC c) (hd : FitC d) : (kl d).sameKey (kl c) = decide (d = c) := by
  by_cases h : d = c
  · subst h; rw [kl_same]; simp
  · rw [decide_eq_false h]
    rcases hs : (kl d).sameKey (kl c) with _ | _
    · rfl
    · exact absurd (kl_inj hd hc (WideAt.sameKey_eq hs)) h
theorem Rg.start {p : Cl → Bool} {L : List Cl} {D : DataW Unit} (h1 : ∀ c, FitC c → Maps.has D (kl c) = decide (c ∈ L)) (h2 : Maps.size D = L.length) (hf : ∀ c ∈ L, FitC c) : Rg p L D (Maps.has D) [] := by
  refine ⟨fun c hc => ?_, fun c hc h => ?_, List.nodup_nil, fun c => ?_, by simpa using h2⟩
  · rw [h1 c hc]; by_cases hm : c ∈ L <;> simp [hm]
  · rw [h1 c hc] at h; exact of_decide_eq_true h
  · constructor
    · intro h; cases h
    · rintro ⟨hm, _, h⟩
      rw [h1 c (hf c hm), decide_eq_true hm] at h
      cases h
theorem Rg.stay {p : Cl → Bool} {L : List Cl} {D : DataW Unit} {left : Lit → Bool} {G : List Cl} (h : Rg p L D left G) (hL : ∀ c ∈ L, FitC c) {c : Cl} (hc : FitC c) (hp : p c = false) : Rg p L D (fun z => left z && !z.sameKey (kl c)) G := by
  refine ⟨fun d hd => ?_, fun d hd hl => ?_, h.nd, fun d => ?_, h.size⟩
  · rw [h.has d hd, kl_eq hc hd]
    by_cases e : d = c
    · subst e; simp [hp]
    · simp [e]
  · simp only [Bool.and_eq_true] at hl
    exact h.inL d hd hl.1
  · rw [h.mem d]
    constructor
    · rintro ⟨h1, h2, h3⟩; exact ⟨h1, h2, by simp [h3]⟩
    · rintro ⟨h1, h2, h3⟩
      refine ⟨h1, h2, ?_⟩
      rw [kl_eq hc (hL d h1)] at h3
      have hne : d ≠ c := by rintro rfl; rw [hp] at h2; cases h2
      simpa [hne] using h3
theorem Rg.strike {p : Cl → Bool} {L : List Cl} {D : DataW Unit} {left : Lit → Bool} {G : List Cl} (h : Rg p L D left G) (ht : Tidy D) (hL : ∀ c ∈ L, FitC c) {c : Cl} (hc : FitC c) (hl : left (kl c) = true) (hp : p c = true) : Rg p L (D.del (kl c)) (fun z => left z && !z.sameKey (kl c)) (G ++ [c]) := by
  have hcL := h.inL c hc hl
  refine ⟨fun d hd => ?_, fun d hd hl => ?_, ?_, fun d => ?_, ?_⟩
  · by_cases e : d = c
    · subst e
      rw [has_del_same]
      simp [kl_same, hp]
    · rw [has_del_other (fun h => e (kl_inj hd hc h)), h.has d hd, kl_eq hc hd]
      simp [e]
  · simp only [Bool.and_eq_true] at hl
    exact h.inL d hd hl.1
  · refine List.nodup_append.2 ⟨h.nd, by simp, fun a ha b hb => ?_⟩
    simp only [List.mem_singleton] at hb
    subst hb
    rintro rfl
    have := ((h.mem a).1 ha).2.2
    rw [hl] at this
    cases this
  · rw [List.mem_append, List.mem_singleton, h.mem d]
    constructor
    · rintro (⟨h1, h2, h3⟩ | rfl)
      · exact ⟨h1, h2, by simp [h3]⟩
      · exact ⟨hcL, hp, by simp [kl_same]⟩
    · rintro ⟨h1, h2, h3⟩
      by_cases e : d = c
      · exact Or.inr e
      · refine Or.inl ⟨h1, h2, ?_⟩
        rw [kl_eq hc (hL d h1)] at h3
        simpa [e] using h3
  · have h1 := size_del (k := kl c) ht
    have h2 := h.size
    rw [h.has c hc] at h1
    simp only [hcL, hl, true_or, and_self, decide_true, if_true] at h1
    simp only [List.length_append, List.length_cons, List.length_nil]
    omega
theorem Rg.done {p : Cl → Bool} {L : List Cl} {D : DataW Unit} {left : Lit → Bool} {G : List Cl} (h : Rg p L D left G) (hn : L.Nodup) (hl : ∀ k, left k = false) : G.Perm (L.filter p) ∧ (∀ c, FitC c → Maps.has D (kl c) = decide (c ∈ L.filter (fun c => !p c))) ∧ Maps.size D = (L.filter (fun c => !p c)).length := by
  have hp : G.Perm (L.filter p) := (List.perm_ext_iff_of_nodup h.nd (hn.filter _)).2 (fun c => by rw [h.mem c]; simp [hl, List.mem_filter])
  refine ⟨hp, fun c hc => ?_, ?_⟩
  · rw [h.has c hc]; simp [hl, List.mem_filter]
  · have h1 := h.size
    have h2 := hp.length_eq
    have h3 : ∀ L : List Cl, (L.filter p).length + (L.filter (fun c => !p c)).length = L.length := fun L => by
      induction L with
      | nil => rfl
      | cons a L ih => rcases h : p a with _ | _ <;> simp [h] <;> omega
    have := h3 L
    omega

/-- Cells in a row of one's own behind a world. -/
def Kw (b : Nat) (wx : World) (v : Value) (L : List Cl) : Prop := wx.ownsRow b 64 3 v L.length (kv L)
theorem Kw.fr {b : Nat} {wx wy : World} {S : Nat → Prop} {v : Value} {L : List Cl} (h : Kw b wx v L) (hf : Fr wx wy S) (hS : ∀ k, v.ownBlock = some k → ¬ S k) : Kw b wy v L := own_fr h hf hS
theorem kv_one (L : List Cl) : ∀ u ∈ kv L, u.oneCell' = true := by
  intro u hu
  simp only [kv, List.mem_flatMap] at hu
  obtain ⟨c, _, hc⟩ := hu
  simp at hc
  rcases hc with rfl | rfl | rfl <;> rfl
/-- Append of one cell. -/
theorem wpl_kw {W : World} {bn : Nat} {ops : Array Oper} {rest : List Oper} {o : Oper} {a : Act} {Q : Exit → Act → World → Prop} (hgd : o.guard = none) (sl x : Operand)
    (ho : o.op = .call { callee := .builtin .append, args := #[sl, x], argTypes := #[35, 35] }) (v : Value) (l : List Cl) (hs : a.eval sl = v) (N : Nat) (y : Cl) (hx : a.eval x = .slice (some ⟨N, 0, none⟩) 1 1) (hn : l.length ≤ 1000000000) (hb : Kw bn W v l) (hbs : bn ≤ W.heap.size) (hy : W.heap[N]? = some (.cells #[.int .i64 y.v, .string y.k, .int .i64 y.s] 64 (0, 0)))
    (h : ∀ v' w', Kw bn w' v' (l ++ [y]) → W.grownBy w' v.ownBlock → wpList Try.prog ops Q rest (a.put o.dst v') w') : wpList Try.prog ops Q (o :: rest) a W := by
  obtain ⟨i0, hi, hz0, hz1, hz2⟩ := infoP Try.info_cell
  refine wpList_append_own_at W hgd sl x 35 ho bn 64 i0 _ 3 32 Try.underlying35 hi hz0 hz1 hz2 rfl (by decide) v l.length (kv l) hs hb ⟨N, 0, none⟩ 1 1 [.int .i64 y.v, .string y.k, .int .i64 y.s] hx rfl ?_ (by intro u hu; simp at hu; rcases hu with rfl | rfl | rfl <;> rfl) (by unfold maxLen; omega) (by omega) hbs ?_
  · intro j u hj
    rw [Addr.add_lit, Nat.zero_add, cell_of_row W N j _ _ (0, 0) hy]
    match j, hj with
    | 0, hj => simpa using hj
    | 1, hj => simpa using hj
    | 2, hj => simpa using hj
  · intro v' w' hown hgr _ hat
    refine h v' w' ?_ hgr
    unfold Kw
    rw [kv_append, List.length_append]
    exact hown
theorem Kw.row {b : Nat} {wx : World} {v : Value} {L : List Cl} (h : Kw b wx v L) : (v = .slice none 0 0 ∧ L = []) ∨ ∃ g cap rest, v = .slice (some ⟨g, 0, none⟩) L.length cap ∧ L.length ≤ cap ∧ cap ≤ maxLen ∧ b ≤ g ∧ RowK wx g L rest ∧ rest.length + L.length * 3 = cap * 3 := by
  rcases h.2 with ⟨rfl, h0⟩ | ⟨g, cap, cur, rfl, hb, hg, h1, h2, h3, h4⟩
  · exact Or.inl ⟨rfl, List.eq_nil_of_length_eq_zero h0⟩
  · refine Or.inr ⟨g, cap, cur.toList.drop (L.length * 3), rfl, h1, h2, hb, ?_, ?_⟩
    · unfold RowK
      rw [hg]
      have e : kv L ++ cur.toList.drop (L.length * 3) = cur.toList := by
        conv => rhs; rw [← List.take_append_drop (L.length * 3) cur.toList]
        rw [h4]
      rw [e]
    · rw [List.length_drop, Array.length_toList, h3]
      omega
theorem RowK.kw {b g cap : Nat} {wx : World} {L : List Cl} {rest : List Value} (h : RowK wx g L rest) (h1 : L.length ≤ cap) (h2 : cap ≤ maxLen) (hb : b ≤ g) (h3 : rest.length + L.length * 3 = cap * 3) : Kw b wx (.slice (some ⟨g, 0, none⟩) L.length cap) L := by
  refine ⟨by rw [kv_length], Or.inr ⟨g, cap, (kv L ++ rest).toArray, rfl, hb, h, h1, h2, ?_, ?_⟩⟩
  · simp [kv_length]; omega
  · simp [kv_length]
/-- Live cells that are sorted behind. -/
theorem sorted_is {ys G L : List Cl} (p : Cl → Bool) (hp : ys.Perm G) (hg : G.Perm (L.filter p)) (hr : Ri L) (hs : ys.Pairwise (fun a b => ¬ cmpC b a < 0)) : ys = L.filter p := by
  have hn : G.Nodup := hg.nodup_iff.2 ((ri_nodup hr).filter _)
  exact ri_ext (ri_sorted hp hn hs) (ri_filter hr p) (fun c => (hp.trans hg).mem_iff)
end Go.Proofs.Ytbhhpkbiflolfaa.V
