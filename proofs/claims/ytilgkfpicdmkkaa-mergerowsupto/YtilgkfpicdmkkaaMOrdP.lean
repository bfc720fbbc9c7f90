import Derived.Test.YtilgkfpicdmkkaaMSortP
import Derived.Test.YtilgkfpicdmkkaaMLessW
/- Merging keeps the order of like ones: lists merged by two and two; rows put into order. Nothing of the program is used here. -/
namespace Go.Proofs.Ytilgkfpicdmkkaa.M
section
variable {T : Type} [Inhabited T] {cm : T → T → Int}

/-- Those like a. -/
def likes (cm : T → T → Int) (a : T) (l : List T) : List T := l.filter (fun b => decide (cm a b = 0))
theorem merged_likes_n (C : Cm cm) (a : T) : ∀ (n : Nat) (F : List (List T)), tot F = n → (∀ l ∈ F, l.Pairwise (fun a b => cm a b ≤ 0)) → likes cm a (merged cm F) = (F.map (likes cm a)).flatten
  | 0, F, h, _ => by
    rcases merged_cases C F with ⟨h1, h2⟩ | ⟨x, _, _, _, h4⟩
    · rw [h2]
      have h3 := rs_nil_flat h1
      symm
      refine (List.flatten_eq_nil_iff.2 ?_ : _ = ([] : List T))
      intro l hl
      obtain ⟨l', h5, rfl⟩ := List.mem_map.1 hl
      rw [List.flatten_eq_nil_iff] at h3
      rw [h3 l' h5]
      rfl
    · omega
  | n + 1, F, h, hs => by
    rcases merged_cases C F with ⟨h1, h2⟩ | ⟨x, h1, hm, h3, h4⟩
    · rw [h2]
      have h3 := rs_nil_flat h1
      symm
      refine (List.flatten_eq_nil_iff.2 ?_ : _ = ([] : List T))
      intro l hl
      obtain ⟨l', h5, rfl⟩ := List.mem_map.1 hl
      rw [List.flatten_eq_nil_iff] at h3
      rw [h3 l' h5]
      rfl
    · obtain ⟨A, B, e1, e2, e3, e4⟩ := split_at h1
      have hx : x.l ∈ F := by rw [e1]; simp
      have hsx := hs x.l hx
      rw [hd_tail e3] at hsx
      obtain ⟨hsx1, hsx2⟩ := List.pairwise_cons.1 hsx
      have ih := merged_likes_n C a n (F.set x.p x.l.tail) (by omega) (fun l hl => by
        rw [e4] at hl
        rcases List.mem_append.1 hl with hl | hl
        · exact hs l (by rw [e1]; simp [hl])
        · rcases List.mem_cons.1 hl with rfl | hl
          · exact hsx2
          · exact hs l (by rw [e1]; simp [hl]))
      rw [e4] at ih
      rw [h3, e4]
      have e5 : (F.map (likes cm a)).flatten = (A.map (likes cm a)).flatten ++ (likes cm a (x.hd :: x.l.tail) ++ (B.map (likes cm a)).flatten) := by
        conv => lhs; rw [e1]
        rw [← hd_tail e3]
        simp
      rw [e5]
      have e6 : ((A ++ x.l.tail :: B).map (likes cm a)).flatten = (A.map (likes cm a)).flatten ++ (likes cm a x.l.tail ++ (B.map (likes cm a)).flatten) := by simp
      rw [e6] at ih
      by_cases hp : cm a x.hd = 0
      · have hA : (A.map (likes cm a)).flatten = [] := by
          rw [List.flatten_eq_nil_iff]
          intro l hl
          obtain ⟨l', h5, rfl⟩ := List.mem_map.1 hl
          unfold likes
          rw [List.filter_eq_nil_iff]
          intro y hy
          obtain ⟨i, hi, hiA⟩ := List.getElem_of_mem h5
          have hne : l' ≠ [] := List.ne_nil_of_mem hy
          have hr : (⟨i, l'⟩ : R T) ∈ rs 0 F := by
            have key : ∀ (F : List (List T)) (j k : Nat), F[j]? = some l' → (⟨k + j, l'⟩ : R T) ∈ rs k F := by
              intro F
              induction F with
              | nil => intro j k h; simp at h
              | cons b F ih =>
                intro j k h
                simp only [rs]
                cases j with
                | zero =>
                  simp at h
                  subst h
                  have : b.isEmpty = false := by cases b with
                    | nil => exact absurd rfl hne
                    | cons => rfl
                  rw [this]
                  simp
                | succ j =>
                  have h6 := ih j (k + 1) (by simpa using h)
                  rw [show k + (j + 1) = k + 1 + j by omega]
                  split
                  · exact h6
                  · exact List.mem_cons_of_mem _ h6
            have := key F i 0 (by rw [e1, List.getElem?_append_left hi, List.getElem?_eq_getElem hi, hiA])
            rw [Nat.zero_add] at this
            exact this
          have h6 := hm _ hr
          rw [ltR_false] at h6
          have h7 : 0 < cm (⟨i, l'⟩ : R T).hd x.hd := by
            rcases h6 with h6 | ⟨_, h6⟩
            · exact h6
            · exfalso
              have : x.p ≤ i := h6
              omega
          have h8 : cm (⟨i, l'⟩ : R T).hd y ≤ 0 := by
            have e9 := hd_tail (r := (⟨i, l'⟩ : R T)) hne
            have hsl := hs l' (by rw [e1]; simp [h5])
            have e10 : l' = (⟨i, l'⟩ : R T).hd :: l'.tail := e9
            rw [e10] at hsl hy
            rcases List.mem_cons.1 hy with h | h
            · rw [h]
              have := C.anti (⟨i, l'⟩ : R T).hd (⟨i, l'⟩ : R T).hd
              omega
            · exact (List.pairwise_cons.1 hsl).1 y h
          intro h9
          have h9 : cm a y = 0 := by simpa using h9
          have h10 := C.anti a y
          have h11 := C.trans _ y a h8 (by omega)
          have h12 := C.trans _ a x.hd h11 (by omega)
          omega
        rw [hA] at ih ⊢
        unfold likes at ih ⊢
        rw [List.filter_cons_of_pos (by simpa using hp), List.filter_cons_of_pos (by simpa using hp), ih]
        simp
      · unfold likes at ih ⊢
        rw [List.filter_cons_of_neg (by simpa using hp), List.filter_cons_of_neg (by simpa using hp), ih]
theorem merged_likes (C : Cm cm) (a : T) (F : List (List T)) (h : ∀ l ∈ F, l.Pairwise (fun a b => cm a b ≤ 0)) : likes cm a (merged cm F) = (F.map (likes cm a)).flatten := merged_likes_n C a _ F rfl h
omit [Inhabited T] in
/-- Ordered lists with the same likes are one. -/
theorem likes_one (C : Cm cm) : ∀ (l m : List T), l.Pairwise (fun a b => cm a b ≤ 0) → m.Pairwise (fun a b => cm a b ≤ 0) → (∀ a, likes cm a l = likes cm a m) → l = m
  | [], [], _, _, _ => rfl
  | [], b :: m, _, _, h => by
    have h1 := h b
    have h2 := C.anti b b
    unfold likes at h1
    rw [List.filter_cons_of_pos (by simp; omega)] at h1
    simp at h1
  | a :: l, [], _, _, h => by
    have h1 := h a
    have h2 := C.anti a a
    unfold likes at h1
    rw [List.filter_cons_of_pos (by simp; omega)] at h1
    simp at h1
  | a :: l, b :: m, hl, hm, h => by
    obtain ⟨l1, l2⟩ := List.pairwise_cons.1 hl
    obtain ⟨m1, m2⟩ := List.pairwise_cons.1 hm
    have ha := C.anti a a
    have hb := C.anti b b
    have hab := C.anti a b
    have k1 : a ∈ b :: m := by
      have : a ∈ likes cm a (b :: m) := by rw [← h a]; unfold likes; simp; omega
      exact (List.mem_filter.1 this).1
    have k2 : b ∈ a :: l := by
      have : b ∈ likes cm b (a :: l) := by rw [h b]; unfold likes; simp; omega
      exact (List.mem_filter.1 this).1
    have k3 : cm b a ≤ 0 := by
      rcases List.mem_cons.1 k1 with e | e
      · rw [← e]; omega
      · exact m1 a e
    have k4 : cm a b ≤ 0 := by
      rcases List.mem_cons.1 k2 with e | e
      · rw [e]; omega
      · exact l1 b e
    have k5 : cm a b = 0 := by omega
    have h0 := h a
    unfold likes at h0
    rw [List.filter_cons_of_pos (by simp; omega), List.filter_cons_of_pos (by simpa using k5)] at h0
    injection h0 with e1 e2
    subst e1
    rw [likes_one C l m l2 m2 (fun c => ?_)]
    have h3 := h c
    unfold likes at h3 ⊢
    by_cases hc : cm c a = 0
    · rw [List.filter_cons_of_pos (by simpa using hc), List.filter_cons_of_pos (by simpa using hc)] at h3
      injection h3
    · rw [List.filter_cons_of_neg (by simpa using hc), List.filter_cons_of_neg (by simpa using hc)] at h3
      exact h3
/-- Three lists, merged by two and two. -/
theorem merged_left (C : Cm cm) {x y z : List T} (hx : x.Pairwise (fun a b => cm a b ≤ 0)) (hy : y.Pairwise (fun a b => cm a b ≤ 0)) (hz : z.Pairwise (fun a b => cm a b ≤ 0)) : merged cm [merged cm [x, y], z] = merged cm [x, y, z] := by
  have h2 : ∀ l ∈ [x, y], l.Pairwise (fun a b => cm a b ≤ 0) := by intro l hl; simp at hl; rcases hl with rfl | rfl <;> assumption
  have h3 : ∀ l ∈ [x, y, z], l.Pairwise (fun a b => cm a b ≤ 0) := by intro l hl; simp at hl; rcases hl with rfl | rfl | rfl <;> assumption
  have hm := merged_sorted C _ h2
  have h4 : ∀ l ∈ [merged cm [x, y], z], l.Pairwise (fun a b => cm a b ≤ 0) := by intro l hl; simp at hl; rcases hl with rfl | rfl <;> assumption
  refine likes_one C _ _ (merged_sorted C _ h4) (merged_sorted C _ h3) fun a => ?_
  rw [merged_likes C a _ h4, merged_likes C a _ h3]
  simp only [List.map_cons, List.map_nil, List.flatten_cons, List.flatten_nil]
  rw [merged_likes C a _ h2]
  simp
theorem merged_right (C : Cm cm) {x y z : List T} (hx : x.Pairwise (fun a b => cm a b ≤ 0)) (hy : y.Pairwise (fun a b => cm a b ≤ 0)) (hz : z.Pairwise (fun a b => cm a b ≤ 0)) : merged cm [x, merged cm [y, z]] = merged cm [x, y, z] := by
  have h2 : ∀ l ∈ [y, z], l.Pairwise (fun a b => cm a b ≤ 0) := by intro l hl; simp at hl; rcases hl with rfl | rfl <;> assumption
  have h3 : ∀ l ∈ [x, y, z], l.Pairwise (fun a b => cm a b ≤ 0) := by intro l hl; simp at hl; rcases hl with rfl | rfl | rfl <;> assumption
  have hm := merged_sorted C _ h2
  have h4 : ∀ l ∈ [x, merged cm [y, z]], l.Pairwise (fun a b => cm a b ≤ 0) := by intro l hl; simp at hl; rcases hl with rfl | rfl <;> assumption
  refine likes_one C _ _ (merged_sorted C _ h4) (merged_sorted C _ h3) fun a => ?_
  rw [merged_likes C a _ h4, merged_likes C a _ h3]
  simp only [List.map_cons, List.map_nil, List.flatten_cons, List.flatten_nil]
  rw [merged_likes C a _ h2]
  simp
theorem merged_len (C : Cm cm) (F : List (List T)) : (merged cm F).length = tot F := by
  rw [(merged_perm C F).length_eq, List.length_flatten]
  rfl
end

/-- A row put into its place, the first of a cell stays. -/
def insR (x : Rw) : List Rw → List Rw
  | [] => [x]
  | y :: l => if cmpC y.c x.c < 0 then y :: insR x l else if cmpC y.c x.c = 0 then y :: l else x :: y :: l
def ordL (l : List Rw) : List Rw := l.foldl (fun o x => insR x o) []
theorem ordL_snoc (l : List Rw) (x : Rw) : ordL (l ++ [x]) = insR x (ordL l) := by simp [ordL]
theorem insR_at (x : Rw) : ∀ (l : List Rw) (k : Nat), k ≤ l.length → (∀ j, j < k → cmpC (l[j]?.getD default).c x.c < 0) → (k < l.length → ¬ cmpC (l[k]?.getD default).c x.c < 0) → insR x l = if k < l.length ∧ cmpC (l[k]?.getD default).c x.c = 0 then l else l.take k ++ x :: l.drop k
  | [], k, hk, _, _ => by
    have : k = 0 := by simpa using hk
    subst this
    simp [insR]
  | y :: l, 0, _, _, h2 => by
    have h3 := h2 (by simp)
    simp only [List.getElem?_cons_zero, Option.getD_some] at h3
    simp only [insR, if_neg h3]
    simp
  | y :: l, k + 1, hk, h1, h2 => by
    have h3 := h1 0 (by omega)
    simp only [List.getElem?_cons_zero, Option.getD_some] at h3
    have ih := insR_at x l k (by simpa using hk) (fun j hj => by simpa using h1 (j + 1) (by omega)) (fun hlt => by simpa using h2 (by simpa using hlt))
    simp only [insR, if_pos h3, ih]
    simp only [List.length_cons, Nat.add_lt_add_iff_right, List.getElem?_cons_succ, List.take_succ_cons, List.drop_succ_cons, List.cons_append]
    split <;> rfl
theorem insR_mem {x a : Rw} : ∀ {l : List Rw}, a ∈ insR x l → a = x ∨ a ∈ l
  | [], h => by simpa [insR] using h
  | y :: l, h => by
    simp only [insR] at h
    split at h
    · rcases List.mem_cons.1 h with h | h
      · exact Or.inr (by simp [h])
      · rcases insR_mem h with h | h
        · exact Or.inl h
        · exact Or.inr (by simp [h])
    · split at h
      · exact Or.inr h
      · rcases List.mem_cons.1 h with h | h
        · exact Or.inl h
        · exact Or.inr h
theorem insR_rise {x : Rw} : ∀ {l : List Rw}, l.Pairwise (fun a b => W.cmE a b ≤ 0) → (insR x l).Pairwise (fun a b => W.cmE a b ≤ 0)
  | [], _ => by simp [insR]
  | y :: l, h => by
    obtain ⟨h1, h2⟩ := List.pairwise_cons.1 h
    simp only [insR]
    split
    · rename_i hlt
      refine List.pairwise_cons.2 ⟨fun a ha => ?_, insR_rise h2⟩
      rcases insR_mem ha with rfl | ha
      · exact Int.le_of_lt hlt
      · exact h1 a ha
    · rename_i hlt
      split
      · exact h
      · refine List.pairwise_cons.2 ⟨fun a ha => ?_, h⟩
        have hxy : W.cmE x y ≤ 0 := by
          have := cmpC_flip y.c x.c
          unfold W.cmE
          omega
        rcases List.mem_cons.1 ha with rfl | ha
        · exact hxy
        · exact W.cmE_cm.trans _ _ _ hxy (h1 a ha)
theorem insR_len (x : Rw) : ∀ l : List Rw, (insR x l).length ≤ l.length + 1
  | [] => by simp [insR]
  | y :: l => by
    have ih := insR_len x l
    simp only [insR]
    split
    · simp; omega
    · split
      · simp
      · simp
theorem ordL_both : ∀ (l o : List Rw), o.Pairwise (fun a b => W.cmE a b ≤ 0) → (l.foldl (fun o x => insR x o) o).Pairwise (fun a b => W.cmE a b ≤ 0) ∧ (l.foldl (fun o x => insR x o) o).length ≤ o.length + l.length
  | [], o, h => ⟨h, by simp⟩
  | x :: l, o, h => by
    have ih := ordL_both l (insR x o) (insR_rise h)
    have := insR_len x o
    simp only [List.foldl_cons, List.length_cons]
    exact ⟨ih.1, by omega⟩
theorem ordL_rise (l : List Rw) : (ordL l).Pairwise (fun a b => W.cmE a b ≤ 0) := (ordL_both l [] List.Pairwise.nil).1
theorem ordL_len (l : List Rw) : (ordL l).length ≤ l.length := by
  have := (ordL_both l [] List.Pairwise.nil).2
  rw [List.length_nil, Nat.zero_add] at this
  exact this
/-- Neighbours in order, none like the next: no two are like. -/
theorem rise_one {l : List Rw} (hs : l.Pairwise (fun a b => W.cmE a b ≤ 0)) (hn : ∀ i, i + 1 < l.length → W.cmE (l[i]?.getD default) (l[i + 1]?.getD default) ≠ 0) : ∀ a ∈ l, ∀ b ∈ l, W.cmE a b = 0 → a = b := by
  intro a ha b hb h0
  obtain ⟨i, hi, rfl⟩ := List.getElem_of_mem ha
  obtain ⟨j, hj, rfl⟩ := List.getElem_of_mem hb
  have hp := List.pairwise_iff_getElem.1 hs
  have key : ∀ i j (hi : i < l.length) (hj : j < l.length), i < j → W.cmE l[i] l[j] ≠ 0 := by
    intro i j hi hj hij h0
    have h1 := hn i (by omega)
    rw [List.getElem?_eq_getElem hi, List.getElem?_eq_getElem (by omega)] at h1
    simp only [Option.getD_some] at h1
    have h2 := hp i (i + 1) hi (by omega) (by omega)
    have h3 : W.cmE l[i + 1] l[j] ≤ 0 := by
      rcases Nat.lt_or_ge (i + 1) j with h | h
      · exact hp (i + 1) j (by omega) hj h
      · have : j = i + 1 := by omega
        subst this
        have := W.cmE_cm.anti l[i + 1] l[i + 1]
        omega
    have h4 := W.cmE_cm.anti l[i] l[j]
    have h5 := W.cmE_cm.trans l[i + 1] l[j] l[i] h3 (by omega)
    have h6 := W.cmE_cm.anti l[i] l[i + 1]
    omega
  rcases Nat.lt_trichotomy i j with h | h | h
  · exact absurd h0 (key i j hi hj h)
  · subst h; rfl
  · exfalso
    have := key j i hj hi h
    have := W.cmE_cm.anti l[i] l[j]
    omega
end Go.Proofs.Ytilgkfpicdmkkaa.M
