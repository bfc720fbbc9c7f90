import Derived.Test.YtbhhpkbiflolfaaMHeapP
/- Merging lists: what comes next is the least front, of like ones that of the first list; the heap of rests tells just that. Nothing of the program is used here. -/
namespace Go.Proofs.Ytbhhpkbiflolfaa.M

/-- What is left of the list at a place. -/
structure R (T : Type) where
  p : Nat
  l : List T
instance {T : Type} : Inhabited (R T) := ⟨⟨0, []⟩⟩

section
variable {T : Type} [Inhabited T]

/-- The front of a rest. -/
def R.hd (r : R T) : T := r.l.headD default

variable (cm : T → T → Int)

/-- By what a heap of rests is kept. -/
def ltR (a b : R T) : Bool := decide ((if cm a.hd b.hd ≠ 0 then cm a.hd b.hd else (if a.p < b.p then -1 else if b.p < a.p then 1 else 0)) < 0)

/-- A right way to compare. -/
structure Cm : Prop where
  anti : ∀ a b, cm b a = - cm a b
  trans : ∀ a b c, cm a b ≤ 0 → cm b c ≤ 0 → cm a c ≤ 0

theorem ltR_true {a b : R T} : ltR cm a b = true ↔ cm a.hd b.hd < 0 ∨ (cm a.hd b.hd = 0 ∧ a.p < b.p) := by
  unfold ltR
  rw [decide_eq_true_iff]
  split
  · omega
  · split
    · omega
    · split <;> omega
theorem ltR_false {a b : R T} : ltR cm a b = false ↔ 0 < cm a.hd b.hd ∨ (cm a.hd b.hd = 0 ∧ b.p ≤ a.p) := by
  rw [← Bool.not_eq_true, ltR_true]
  omega

variable {cm}
omit [Inhabited T] in
theorem Cm.strict (C : Cm cm) {a b c : T} (h1 : cm a b < 0) (h2 : cm b c ≤ 0) : cm a c < 0 := by
  have h3 := C.trans a b c (by omega) h2
  by_cases h : cm a c = 0
  · have e1 := C.anti a c
    have h4 := C.trans b c a h2 (by omega)
    have e2 := C.anti a b
    omega
  · omega
omit [Inhabited T] in
theorem Cm.strict' (C : Cm cm) {a b c : T} (h1 : cm a b ≤ 0) (h2 : cm b c < 0) : cm a c < 0 := by
  have h3 := C.trans a b c h1 (by omega)
  by_cases h : cm a c = 0
  · have e1 := C.anti a c
    have h4 := C.trans c a b (by omega) h1
    have e2 := C.anti b c
    omega
  · omega
theorem Cm.ord (C : Cm cm) : Ord (ltR cm) := by
  refine ⟨fun a b h => ?_, fun a b c h1 h2 => ?_⟩
  · rw [ltR_true] at h
    rw [ltR_false]
    have := C.anti a.hd b.hd
    omega
  · rw [ltR_false] at *
    have e1 := C.anti a.hd b.hd
    have e2 := C.anti b.hd c.hd
    have e3 := C.anti a.hd c.hd
    have h3 := C.trans a.hd b.hd c.hd (by omega) (by omega)
    by_cases h : cm c.hd a.hd = 0
    · refine Or.inr ⟨h, ?_⟩
      have n1 : ¬ cm a.hd b.hd < 0 := fun hh => by
        have := C.strict hh (show cm b.hd c.hd ≤ 0 by omega)
        omega
      have n2 : ¬ cm b.hd c.hd < 0 := fun hh => by
        have := C.strict' (show cm a.hd b.hd ≤ 0 by omega) hh
        omega
      omega
    · omega

/-- The rests of lists from a place on: those that are not empty. -/
def rs : Nat → List (List T) → List (R T)
  | _, [] => []
  | i, l :: F => if l.isEmpty then rs (i + 1) F else ⟨i, l⟩ :: rs (i + 1) F

omit [Inhabited T] in
theorem rs_append (i : Nat) (A B : List (List T)) : rs i (A ++ B) = rs i A ++ rs (i + A.length) B := by
  induction A generalizing i with
  | nil => simp [rs]
  | cons l A ih =>
    simp only [List.cons_append, rs, List.length_cons]
    rw [ih, show i + 1 + A.length = i + (A.length + 1) by omega]
    split <;> rfl
omit [Inhabited T] in
theorem rs_mem {F : List (List T)} {i : Nat} {r : R T} (h : r ∈ rs i F) : i ≤ r.p ∧ F[r.p - i]? = some r.l ∧ r.l ≠ [] := by
  induction F generalizing i with
  | nil => simp [rs] at h
  | cons l F ih =>
    simp only [rs] at h
    split at h
    · have := ih h
      refine ⟨by omega, ?_, this.2.2⟩
      rw [show r.p - i = (r.p - (i + 1)) + 1 by omega]
      simpa using this.2.1
    · rename_i hne
      rcases List.mem_cons.1 h with e | h
      · subst e
        exact ⟨Nat.le_refl _, by simp, fun e => hne (by simp only at e; rw [e]; rfl)⟩
      · have := ih h
        refine ⟨by omega, ?_, this.2.2⟩
        rw [show r.p - i = (r.p - (i + 1)) + 1 by omega]
        simpa using this.2.1
omit [Inhabited T] in
theorem rs_inj {F : List (List T)} {r s : R T} (h1 : r ∈ rs 0 F) (h2 : s ∈ rs 0 F) (h : r.p = s.p) : r = s := by
  have a := (rs_mem h1).2.1
  have b := (rs_mem h2).2.1
  rw [← h, a] at b
  obtain ⟨p, l⟩ := r
  obtain ⟨q, m⟩ := s
  simp at h b
  rw [h, b]

/-- How many there are in all. -/
def tot (F : List (List T)) : Nat := (F.map List.length).sum

/-- The least of rests. -/
def pick (cm : T → T → Int) : Option (R T) → List (R T) → Option (R T)
  | a, [] => a
  | none, r :: l => pick cm (some r) l
  | some a, r :: l => pick cm (some (if ltR cm r a then r else a)) l
/-- What comes next. -/
def nxt (cm : T → T → Int) (F : List (List T)) : Option (R T) := pick cm none (rs 0 F)

theorem pick_some (C : Cm cm) (l : List (R T)) : ∀ a, ∃ m, pick cm (some a) l = some m ∧ (m = a ∨ m ∈ l) ∧ ltR cm a m = false ∧ ∀ r ∈ l, ltR cm r m = false := by
  have irr : ∀ a, ltR cm a a = false := fun a => by
    cases he : ltR cm a a with
    | false => rfl
    | true => have := C.ord.asym _ _ he; rw [he] at this; exact this
  induction l with
  | nil => exact fun a => ⟨a, rfl, Or.inl rfl, irr a, fun r h => by simp at h⟩
  | cons r l ih =>
    intro a
    simp only [pick]
    obtain ⟨m, h1, h2, h3, h4⟩ := ih (if ltR cm r a then r else a)
    refine ⟨m, h1, ?_, ?_, ?_⟩
    · rcases h2 with h2 | h2
      · rw [h2]
        split
        · exact Or.inr (List.mem_cons_self ..)
        · exact Or.inl rfl
      · exact Or.inr (List.mem_cons_of_mem _ h2)
    · split at h3
      · rename_i hh
        exact C.ord.trans _ _ _ h3 (C.ord.asym _ _ hh)
      · exact h3
    · intro s hs
      rcases List.mem_cons.1 hs with e | hs
      · subst e
        split at h3
        · exact h3
        · rename_i hh
          exact C.ord.trans _ _ _ h3 (by simpa using hh)
      · exact h4 s hs
theorem nxt_none (C : Cm cm) {F : List (List T)} : nxt cm F = none ↔ rs 0 F = [] := by
  unfold nxt
  cases h : rs 0 F with
  | nil => simp [pick]
  | cons r l =>
    simp only [pick]
    obtain ⟨m, h1, _⟩ := pick_some C l r
    rw [h1]
    simp
theorem nxt_some (C : Cm cm) {F : List (List T)} {m : R T} (h : nxt cm F = some m) : m ∈ rs 0 F ∧ ∀ r ∈ rs 0 F, ltR cm r m = false := by
  unfold nxt at h
  cases h0 : rs 0 F with
  | nil => rw [h0] at h; simp [pick] at h
  | cons r l =>
    rw [h0] at h
    simp only [pick] at h
    obtain ⟨m', h1, h2, h3, h4⟩ := pick_some C l r
    rw [h1] at h
    have e : m' = m := by simpa using h
    subst e
    refine ⟨?_, fun s hs => ?_⟩
    · rcases h2 with h2 | h2
      · rw [h2]
        exact List.mem_cons_self ..
      · exact List.mem_cons_of_mem _ h2
    · rcases List.mem_cons.1 hs with e | hs
      · subst e
        exact h3
      · exact h4 s hs
/-- What is least is what comes next. -/
theorem nxt_eq (C : Cm cm) {F : List (List T)} {x : R T} (h : x ∈ rs 0 F) (hm : ∀ r ∈ rs 0 F, ltR cm r x = false) : nxt cm F = some x := by
  cases hn : nxt cm F with
  | none =>
    rw [nxt_none C] at hn
    rw [hn] at h
    simp at h
  | some m =>
    obtain ⟨h1, h2⟩ := nxt_some C hn
    have a := hm m h1
    have b := h2 x h
    rw [ltR_false] at a b
    have e := C.anti m.hd x.hd
    rw [rs_inj h1 h (by omega)]

/-- All of them, in order. -/
def M (cm : T → T → Int) : Nat → List (List T) → List T
  | 0, _ => []
  | n + 1, F => match nxt cm F with | none => [] | some r => r.hd :: M cm n (F.set r.p r.l.tail)
/-- The lists as one. -/
def merged (cm : T → T → Int) (F : List (List T)) : List T := M cm (tot F) F

omit [Inhabited T] in
theorem tot_append (A B : List (List T)) : tot (A ++ B) = tot A + tot B := by simp [tot]
omit [Inhabited T] in
theorem tot_cons (l : List T) (B : List (List T)) : tot (l :: B) = l.length + tot B := by simp [tot]

omit [Inhabited T] in
theorem split_at {F : List (List T)} {r : R T} (h : r ∈ rs 0 F) : ∃ A B, F = A ++ r.l :: B ∧ A.length = r.p ∧ r.l ≠ [] ∧ ∀ t, F.set r.p t = A ++ t :: B := by
  obtain ⟨_, h1, h2⟩ := rs_mem h
  rw [Nat.sub_zero] at h1
  have hlt : r.p < F.length := (List.getElem?_eq_some_iff.1 h1).1
  have he : F[r.p] = r.l := (List.getElem?_eq_some_iff.1 h1).2
  have hs : F = F.take r.p ++ r.l :: F.drop (r.p + 1) := by
    rw [← he]
    simp
  have hl : (F.take r.p).length = r.p := by simp; omega
  refine ⟨F.take r.p, F.drop (r.p + 1), hs, hl, h2, fun t => ?_⟩
  rw [List.set_eq_take_append_cons_drop, if_pos hlt]

omit [Inhabited T] in
theorem tot_step {F : List (List T)} {r : R T} (h : r ∈ rs 0 F) : tot F = tot (F.set r.p r.l.tail) + 1 := by
  obtain ⟨A, B, h1, h2, h3, h4⟩ := split_at h
  rw [h4, tot_append, tot_cons]
  conv => lhs; rw [h1, tot_append, tot_cons]
  have : 0 < r.l.length := List.length_pos_iff.2 h3
  simp
  omega
theorem merged_none (C : Cm cm) {F : List (List T)} (h : rs 0 F = []) : merged cm F = [] := by
  unfold merged
  cases tot F with
  | zero => rfl
  | succ n =>
    simp only [M]
    rw [(nxt_none C).2 h]
theorem merged_some (C : Cm cm) {F : List (List T)} {x : R T} (h : x ∈ rs 0 F) (hm : ∀ r ∈ rs 0 F, ltR cm r x = false) : merged cm F = x.hd :: merged cm (F.set x.p x.l.tail) := by
  unfold merged
  rw [tot_step h]
  simp only [M]
  rw [nxt_eq C h hm]

/-- A heap of rests is that of lists. -/
structure HR (cm : T → T → Int) (hs : List (R T)) (F : List (List T)) : Prop where
  perm : hs.Perm (rs 0 F)
  heap : Hp (ltR cm) hs hs.length

theorem HR.nil : HR cm [] [] := ⟨by simp [rs], fun k _ h => by simp at h⟩
theorem HR.push (C : Cm cm) {hs : List (R T)} {F : List (List T)} (h : HR cm hs F) {l : List T} (hl : l ≠ []) : HR cm (up (ltR cm) (hs ++ [⟨F.length, l⟩]) hs.length) (F ++ [l]) := by
  obtain ⟨p1, p2⟩ := push_heap (x := (⟨F.length, l⟩ : R T)) C.ord h.heap
  have he : l.isEmpty = false := by cases l with
    | nil => exact absurd rfl hl
    | cons => rfl
  refine ⟨?_, ?_⟩
  · rw [rs_append]
    simp only [rs, he, Nat.zero_add]
    exact p1.trans (h.perm.append_right _)
  · rw [p1.length_eq]
    simpa using p2
theorem HR.skip {hs : List (R T)} {F : List (List T)} (h : HR cm hs F) : HR cm hs (F ++ [[]]) := by
  refine ⟨?_, h.heap⟩
  rw [rs_append]
  simpa [rs] using h.perm
theorem HR.empty {F : List (List T)} (h : HR cm [] F) : rs 0 F = [] := List.nil_perm.1 h.perm
theorem HR.first (C : Cm cm) {x : R T} {xs : List (R T)} {F : List (List T)} (h : HR cm (x :: xs) F) : x ∈ rs 0 F ∧ ∀ r ∈ rs 0 F, ltR cm r x = false := by
  refine ⟨h.perm.mem_iff.1 (List.mem_cons_self ..), fun r hr => ?_⟩
  have hr2 := h.perm.mem_iff.2 hr
  obtain ⟨k, hk, e⟩ := List.mem_iff_getElem.1 hr2
  have := h.heap.least C.ord k hk
  rw [at_get hk, e] at this
  exact this
omit [Inhabited T] in
theorem rs_step {F : List (List T)} {r : R T} (h : r ∈ rs 0 F) (t : List T) : ∃ L, (rs 0 F).Perm (r :: L) ∧ (rs 0 (F.set r.p t)).Perm (if t.isEmpty then L else ⟨r.p, t⟩ :: L) := by
  obtain ⟨A, B, h1, h2, h3, h4⟩ := split_at h
  refine ⟨rs 0 A ++ rs (r.p + 1) B, ?_, ?_⟩
  · conv => lhs; rw [h1]
    have he : r.l.isEmpty = false := by cases hl : r.l with
      | nil => exact absurd hl h3
      | cons => rfl
    rw [rs_append]
    simp only [rs, he, Nat.zero_add, h2]
    exact List.perm_middle
  · rw [h4, rs_append]
    simp only [rs, Nat.zero_add, h2]
    split
    · exact List.Perm.refl _
    · exact List.perm_middle
theorem HR.fix (C : Cm cm) {x : R T} {xs : List (R T)} {F : List (List T)} (h : HR cm (x :: xs) F) (ht : x.l.tail ≠ []) : HR cm (down (ltR cm) ((⟨x.p, x.l.tail⟩ : R T) :: xs) 0 (xs.length + 1)).1 (F.set x.p x.l.tail) := by
  have f := fix_heap (x := (⟨x.p, x.l.tail⟩ : R T)) C.ord h.heap (by simp)
  simp only [List.set_cons_zero, List.length_cons] at f
  obtain ⟨L, p1, p2⟩ := rs_step (h.first C).1 x.l.tail
  have he : x.l.tail.isEmpty = false := by cases hl : x.l.tail with
    | nil => exact absurd hl ht
    | cons => rfl
  rw [he] at p2
  refine ⟨f.1.trans (((h.perm.trans p1).cons_inv.cons _).trans p2.symm), ?_⟩
  rw [f.1.length_eq]
  exact f.2
theorem HR.pop (C : Cm cm) {x : R T} {xs : List (R T)} {F : List (List T)} (h : HR cm (x :: xs) F) (ht : x.l.tail = []) (y : R T) : HR cm (popH (ltR cm) (y :: xs)) (F.set x.p x.l.tail) := by
  have f := h.heap
  obtain ⟨L, p1, p2⟩ := rs_step (h.first C).1 x.l.tail
  rw [ht] at p2
  obtain ⟨g1, g2, g3⟩ := pop_heap y C.ord f
  rw [ht]
  exact ⟨g1.trans ((h.perm.trans p1).cons_inv.trans p2.symm), by rw [g3]; exact g2⟩
end
end Go.Proofs.Ytbhhpkbiflolfaa.M
