import Derived.Test.YtilgkfpicdmkkaaMMergeP
/- Merging: what comes out has just what went in, in order; lists cut off behind so many make no difference to the first so many. Nothing of the program is used here. -/
namespace Go.Proofs.Ytilgkfpicdmkkaa.M
section
variable {T : Type} [Inhabited T] {cm : T → T → Int}

omit [Inhabited T] in
theorem rs_nil_flat {F : List (List T)} {i : Nat} (h : rs i F = []) : F.flatten = [] := by
  induction F generalizing i with
  | nil => rfl
  | cons l F ih =>
    simp only [rs] at h
    split at h
    · rename_i he
      have : l = [] := by simpa using he
      rw [this, List.flatten_cons, List.nil_append]
      exact ih h
    · simp at h
omit [Inhabited T] in
theorem rs_ne {F : List (List T)} (h : rs 0 F ≠ []) : 0 < tot F := by
  rcases Nat.eq_zero_or_pos (tot F) with h0 | h0
  · exfalso
    apply h
    have key : ∀ (F : List (List T)) (i : Nat), tot F = 0 → rs i F = [] := by
      intro F
      induction F with
      | nil => intro i _; rfl
      | cons l F ih =>
        intro i h1
        rw [tot_cons] at h1
        have : l = [] := List.eq_nil_of_length_eq_zero (by omega)
        simp only [rs, this, List.isEmpty_nil, if_true]
        exact ih _ (by omega)
    exact key F 0 h0
  · exact h0
/-- What comes next, and what is left. -/
theorem merged_cases (C : Cm cm) (F : List (List T)) : (rs 0 F = [] ∧ merged cm F = []) ∨ ∃ x, x ∈ rs 0 F ∧ (∀ r ∈ rs 0 F, ltR cm r x = false) ∧ merged cm F = x.hd :: merged cm (F.set x.p x.l.tail) ∧ tot F = tot (F.set x.p x.l.tail) + 1 := by
  by_cases h : rs 0 F = []
  · exact Or.inl ⟨h, merged_none C h⟩
  · right
    cases hn : nxt cm F with
    | none => exact absurd ((nxt_none C).1 hn) h
    | some x =>
      obtain ⟨h1, h2⟩ := nxt_some C hn
      exact ⟨x, h1, h2, merged_some C h1 h2, tot_step h1⟩
theorem hd_tail {r : R T} (h : r.l ≠ []) : r.l = r.hd :: r.l.tail := by
  unfold R.hd
  cases hl : r.l with
  | nil => exact absurd hl h
  | cons a l => rfl
theorem merged_perm_n (C : Cm cm) : ∀ (n : Nat) (F : List (List T)), tot F = n → (merged cm F).Perm F.flatten
  | 0, F, h => by
    rcases merged_cases C F with ⟨h1, h2⟩ | ⟨x, _, _, _, h4⟩
    · rw [h2, rs_nil_flat h1]
    · omega
  | n + 1, F, h => by
    rcases merged_cases C F with ⟨h1, h2⟩ | ⟨x, h1, _, h3, h4⟩
    · rw [h2, rs_nil_flat h1]
    · have ih := merged_perm_n C n (F.set x.p x.l.tail) (by omega)
      obtain ⟨A, B, e1, _, e3, e4⟩ := split_at h1
      rw [e4] at ih h3
      rw [h3]
      have e5 : F.flatten = A.flatten ++ (x.hd :: x.l.tail) ++ B.flatten := by
        conv => lhs; rw [e1]
        rw [← hd_tail e3]
        simp
      rw [e5]
      refine (ih.cons x.hd).trans ?_
      simp only [List.flatten_append, List.flatten_cons]
      rw [List.append_assoc]
      exact List.perm_middle.symm
theorem merged_perm (C : Cm cm) (F : List (List T)) : (merged cm F).Perm F.flatten := merged_perm_n C _ F rfl
theorem merged_sorted_n (C : Cm cm) : ∀ (n : Nat) (F : List (List T)), tot F = n → (∀ l ∈ F, l.Pairwise (fun a b => cm a b ≤ 0)) → (merged cm F).Pairwise (fun a b => cm a b ≤ 0)
  | 0, F, h, _ => by
    rcases merged_cases C F with ⟨_, h2⟩ | ⟨x, _, _, _, h4⟩
    · rw [h2]; exact List.Pairwise.nil
    · omega
  | n + 1, F, h, hs => by
    rcases merged_cases C F with ⟨_, h2⟩ | ⟨x, h1, hm, h3, h4⟩
    · rw [h2]; exact List.Pairwise.nil
    · obtain ⟨A, B, e1, _, e3, e4⟩ := split_at h1
      have hx : x.l ∈ F := by rw [e1]; simp
      have hsx := hs x.l hx
      rw [hd_tail e3] at hsx
      obtain ⟨hsx1, hsx2⟩ := List.pairwise_cons.1 hsx
      have ih := merged_sorted_n C n (F.set x.p x.l.tail) (by omega) (fun l hl => by
        rw [e4] at hl
        rcases List.mem_append.1 hl with hl | hl
        · exact hs l (by rw [e1]; simp [hl])
        · rcases List.mem_cons.1 hl with rfl | hl
          · exact hsx2
          · exact hs l (by rw [e1]; simp [hl]))
      rw [h3]
      refine List.pairwise_cons.2 ⟨fun y hy => ?_, ih⟩
      have hy2 := (merged_perm C _).subset hy
      rw [e4] at hy2
      obtain ⟨l, hl, hyl⟩ := List.mem_flatten.1 hy2
      have hcase : l = x.l.tail ∨ l ∈ F := by
        rcases List.mem_append.1 hl with hl | hl
        · exact Or.inr (by rw [e1]; simp [hl])
        · rcases List.mem_cons.1 hl with rfl | hl
          · exact Or.inl rfl
          · exact Or.inr (by rw [e1]; simp [hl])
      rcases hcase with rfl | hlF
      · exact hsx1 y hyl
      · have hne : l ≠ [] := List.ne_nil_of_mem hyl
        have hr : ∃ p, (⟨p, l⟩ : R T) ∈ rs 0 F := by
          have key : ∀ (F : List (List T)) (i : Nat), l ∈ F → ∃ p, (⟨p, l⟩ : R T) ∈ rs i F := by
            intro F
            induction F with
            | nil => intro i h; simp at h
            | cons a F ih =>
              intro i h
              simp only [rs]
              rcases List.mem_cons.1 h with rfl | h
              · have : l.isEmpty = false := by cases l with
                  | nil => exact absurd rfl hne
                  | cons => rfl
                rw [this]
                exact ⟨i, by simp⟩
              · obtain ⟨p, hp⟩ := ih (i + 1) h
                refine ⟨p, ?_⟩
                split
                · exact hp
                · exact List.mem_cons_of_mem _ hp
          exact key F 0 hlF
        obtain ⟨p, hp⟩ := hr
        have h5 := hm _ hp
        rw [ltR_false] at h5
        have h6 := C.anti x.hd (⟨p, l⟩ : R T).hd
        have h7 : cm x.hd (⟨p, l⟩ : R T).hd ≤ 0 := by omega
        have h8 : cm (⟨p, l⟩ : R T).hd y ≤ 0 := by
          have e9 := hd_tail (r := (⟨p, l⟩ : R T)) hne
          have hsl := hs l hlF
          have e10 : l = (⟨p, l⟩ : R T).hd :: l.tail := e9
          rw [e10] at hsl hyl
          rcases List.mem_cons.1 hyl with h | h
          · rw [h]
            have := C.anti (⟨p, l⟩ : R T).hd (⟨p, l⟩ : R T).hd
            omega
          · exact (List.pairwise_cons.1 hsl).1 y h
        exact C.trans _ _ _ h7 h8
theorem merged_sorted (C : Cm cm) (F : List (List T)) (h : ∀ l ∈ F, l.Pairwise (fun a b => cm a b ≤ 0)) : (merged cm F).Pairwise (fun a b => cm a b ≤ 0) := merged_sorted_n C _ F rfl h
/-- What has the same, in order, is it, where unlike ones compare unlike. -/
theorem merged_one (C : Cm cm) (F : List (List T)) (L : List T) (h : ∀ l ∈ F, l.Pairwise (fun a b => cm a b ≤ 0)) (hp : L.Perm F.flatten) (hs : L.Pairwise (fun a b => cm a b ≤ 0)) (hu : ∀ a ∈ L, ∀ b ∈ L, cm a b = 0 → a = b) : merged cm F = L := by
  refine List.Perm.eq_of_pairwise (le := fun a b => cm a b ≤ 0) (fun a b ha hb h1 h2 => ?_) (merged_sorted C F h) hs ((merged_perm C F).trans hp.symm)
  have ha2 := hp.symm.subset ((merged_perm C F).subset ha)
  have := C.anti a b
  exact hu a ha2 b hb (by omega)

omit [Inhabited T] in
theorem tail_take' (l : List T) (m : Nat) : (l.take (m + 1)).tail = l.tail.take m := by cases l <;> simp
/-- Lists that begin alike. -/
def Alk (m : Nat) (F F' : List (List T)) : Prop := F.length = F'.length ∧ ∀ (p : Nat) (l l' : List T), F[p]? = some l → F'[p]? = some l' → l.take m = l'.take m
omit [Inhabited T] in
theorem rs_iff {F : List (List T)} {r : R T} : r ∈ rs 0 F ↔ F[r.p]? = some r.l ∧ r.l ≠ [] := by
  constructor
  · intro h
    have := rs_mem h
    rw [Nat.sub_zero] at this
    exact this.2
  · rintro ⟨h1, h2⟩
    have key : ∀ (F : List (List T)) (i p : Nat) (l : List T), F[p]? = some l → l ≠ [] → (⟨i + p, l⟩ : R T) ∈ rs i F := by
      intro F
      induction F with
      | nil => intro i p l h _; simp at h
      | cons a F ih =>
        intro i p l h hne
        simp only [rs]
        cases p with
        | zero =>
          simp at h
          subst h
          have : a.isEmpty = false := by cases a with
            | nil => exact absurd rfl hne
            | cons => rfl
          rw [this]
          simp
        | succ p =>
          have h3 := ih (i + 1) p l (by simpa using h) hne
          rw [show i + (p + 1) = i + 1 + p by omega]
          split
          · exact h3
          · exact List.mem_cons_of_mem _ h3
    have := key F 0 r.p r.l h1 h2
    rw [Nat.zero_add] at this
    exact this
theorem take_alike (C : Cm cm) : ∀ (m : Nat) (F F' : List (List T)), Alk m F F' → (merged cm F).take m = (merged cm F').take m
  | 0, _, _, _ => by simp
  | m + 1, F, F', h => by
    have hh : ∀ (p : Nat) (l l' : List T), F[p]? = some l → F'[p]? = some l' → (l = [] ↔ l' = []) ∧ l.headD default = l'.headD default := fun p l l' h1 h2 => by
      have := h.2 p l l' h1 h2
      cases l with
      | nil => cases l' with
        | nil => exact ⟨Iff.rfl, rfl⟩
        | cons => simp at this
      | cons a l => cases l' with
        | nil => simp at this
        | cons b l' =>
          simp at this
          exact ⟨by simp, this.1⟩
    have other : ∀ {G G' : List (List T)}, G.length = G'.length → (∀ (p : Nat) (l l' : List T), G[p]? = some l → G'[p]? = some l' → (l = [] ↔ l' = []) ∧ l.headD default = l'.headD default) → ∀ r ∈ rs 0 G, ∃ l', (⟨r.p, l'⟩ : R T) ∈ rs 0 G' ∧ (⟨r.p, l'⟩ : R T).hd = r.hd := fun {G G'} hl hG r hr => by
      obtain ⟨h1, h2⟩ := rs_iff.1 hr
      have hlt := (List.getElem?_eq_some_iff.1 h1).1
      have h3 : G'[r.p]? = some (G'[r.p]'(by omega)) := List.getElem?_eq_getElem (by omega)
      obtain ⟨h4, h5⟩ := hG _ _ _ h1 h3
      exact ⟨_, rs_iff.2 ⟨h3, fun e => h2 (h4.2 e)⟩, h5.symm⟩
    rcases merged_cases C F with ⟨h1, h2⟩ | ⟨x, h1, hm, h3, _⟩
    · have h1' : rs 0 F' = [] := by
        cases hr : rs 0 F' with
        | nil => rfl
        | cons r L =>
          obtain ⟨l', h4, _⟩ := other (G := F') (G' := F) h.1.symm (fun p l l' a b => ⟨(hh p l' l b a).1.symm, (hh p l' l b a).2.symm⟩) r (by rw [hr]; simp)
          rw [h1] at h4
          simp at h4
      rw [h2, merged_none C h1']
    · obtain ⟨l', h4, h5⟩ := other h.1 hh x h1
      have hm' : ∀ r ∈ rs 0 F', ltR cm r ⟨x.p, l'⟩ = false := fun r hr => by
        obtain ⟨l2, h6, h7⟩ := other (G := F') (G' := F) h.1.symm (fun p l l' a b => ⟨(hh p l' l b a).1.symm, (hh p l' l b a).2.symm⟩) r hr
        have := hm _ h6
        rw [ltR_false] at this ⊢
        rw [h5, ← h7]
        exact this
      rw [h3, merged_some C h4 hm', h5]
      simp only [List.take_succ_cons]
      congr 1
      obtain ⟨g1, _⟩ := rs_iff.1 h1
      obtain ⟨g2, _⟩ := rs_iff.1 h4
      dsimp only at g2 ⊢
      apply take_alike C m
      refine ⟨by simp [h.1], fun p l l'' a b => ?_⟩
      rw [List.getElem?_set] at a b
      by_cases hp : x.p = p
      · subst hp
        have hlt := (List.getElem?_eq_some_iff.1 g1).1
        have hlt' := (List.getElem?_eq_some_iff.1 g2).1
        rw [if_pos rfl, if_pos hlt] at a
        rw [if_pos rfl, if_pos hlt'] at b
        simp only [Option.some.injEq] at a b
        subst a b
        have h8 := h.2 _ _ _ g1 g2
        have h9 := congrArg List.tail h8
        rw [tail_take', tail_take'] at h9
        exact h9
      · rw [if_neg hp] at a b
        have h8 := h.2 _ _ _ a b
        have h9 := congrArg (List.take m) h8
        rw [List.take_take, List.take_take] at h9
        simpa using h9
end
end Go.Proofs.Ytilgkfpicdmkkaa.M
