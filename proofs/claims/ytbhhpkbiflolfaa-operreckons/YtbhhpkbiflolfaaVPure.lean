/- Live cells as lists: lists alone. Nothing of the program is used here. -/
import Derived.Test.YtbhhpkbiflolfaaMCellP
import Derived.Test.YtbhhpkbiflolfaaQOpenP
namespace Go.Proofs.Ytbhhpkbiflolfaa.V
open M (Cl cmpC cmC cmpC_zero cmpC_flip)

instance : DecidableEq Cl := fun a b => decidable_of_iff (a.v = b.v ∧ a.k = b.k ∧ a.s = b.s) ⟨fun h => by cases a; cases b; simp only at h; obtain ⟨rfl, rfl, rfl⟩ := h; rfl, fun h => by subst h; exact ⟨rfl, rfl, rfl⟩⟩
/-- Cells that rise. -/
def Ri (L : List Cl) : Prop := L.Pairwise (fun a b => cmpC a b < 0)
theorem cmp_irrefl (a : Cl) : ¬ cmpC a a < 0 := by rw [cmpC_zero.2 rfl]; omega
theorem cmp_trans {a b c : Cl} (h1 : cmpC a b < 0) (h2 : cmpC b c < 0) : cmpC a c < 0 := cmC.strict h1 (by omega)
theorem ri_nodup {L : List Cl} (h : Ri L) : L.Nodup := h.imp (fun {a b} hab e => by subst e; exact cmp_irrefl a hab)
theorem ri_filter {L : List Cl} (h : Ri L) (p : Cl → Bool) : Ri (L.filter p) := List.Pairwise.filter p h
/-- One cell more. -/
def ins (c : Cl) : List Cl → List Cl
  | [] => [c]
  | x :: L => if cmpC x c < 0 then x :: ins c L else if x = c then x :: L else c :: x :: L
theorem mem_ins {c d : Cl} {L : List Cl} : d ∈ ins c L ↔ d = c ∨ d ∈ L := by
  induction L with
  | nil => simp [ins]
  | cons x L ih =>
    unfold ins
    by_cases h1 : cmpC x c < 0
    · rw [if_pos h1]
      simp only [List.mem_cons, ih]
      constructor
      · rintro (h | h | h) <;> simp [h]
      · rintro (h | h | h) <;> simp [h]
    · rw [if_neg h1]
      by_cases h2 : x = c
      · rw [if_pos h2]; subst h2; simp
      · rw [if_neg h2]; simp
theorem ri_ins {c : Cl} {L : List Cl} (h : Ri L) : Ri (ins c L) := by
  induction L with
  | nil => exact List.pairwise_cons.2 ⟨by simp, List.Pairwise.nil⟩
  | cons x L ih =>
    obtain ⟨h1, h2⟩ := List.pairwise_cons.1 h
    unfold ins
    by_cases hlt : cmpC x c < 0
    · rw [if_pos hlt]
      refine List.pairwise_cons.2 ⟨fun y hy => ?_, ih h2⟩
      rcases mem_ins.1 hy with rfl | hy
      · exact hlt
      · exact h1 y hy
    · rw [if_neg hlt]
      by_cases he : x = c
      · rw [if_pos he]; exact h
      · rw [if_neg he]
        have hf := cmpC_flip c x
        have hz : cmpC c x ≠ 0 := fun h => he (cmpC_zero.1 h).symm
        have hc : cmpC c x < 0 := by omega
        refine List.pairwise_cons.2 ⟨fun y hy => ?_, h⟩
        rcases List.mem_cons.1 hy with rfl | hy
        · exact hc
        · exact cmp_trans hc (h1 y hy)
theorem ins_len {c : Cl} {L : List Cl} (h : Ri L) : (ins c L).length = if c ∈ L then L.length else L.length + 1 := by
  induction L with
  | nil => simp [ins]
  | cons x L ih =>
    obtain ⟨h1, h2⟩ := List.pairwise_cons.1 h
    unfold ins
    by_cases hlt : cmpC x c < 0
    · rw [if_pos hlt]
      have hne : ¬ c = x := fun e => by subst e; exact cmp_irrefl _ hlt
      simp only [List.length_cons, ih h2, List.mem_cons, hne, false_or]
      split <;> rfl
    · rw [if_neg hlt]
      by_cases he : x = c
      · rw [if_pos he]; subst he; simp
      · rw [if_neg he]
        have hf := cmpC_flip c x
        have hz : cmpC c x ≠ 0 := fun h => he (cmpC_zero.1 h).symm
        have hc : cmpC c x < 0 := by omega
        have hn : ¬ c ∈ x :: L := by
          intro hm
          rcases List.mem_cons.1 hm with e | hm
          · exact he e.symm
          · exact cmp_irrefl _ (cmp_trans hc (h1 c hm))
        rw [if_neg hn]
        rfl
theorem ins_len_le (c : Cl) (L : List Cl) : (ins c L).length ≤ L.length + 1 := by
  induction L with
  | nil => simp [ins]
  | cons x L ih =>
    unfold ins
    split
    · simp; omega
    · split <;> simp
/-- Two lists that rise, of the same cells, are one. -/
theorem ri_ext {a b : List Cl} (ha : Ri a) (hb : Ri b) (h : ∀ c, c ∈ a ↔ c ∈ b) : a = b := by
  induction a generalizing b with
  | nil =>
    cases b with
    | nil => rfl
    | cons y b => exact absurd ((h y).2 (by simp)) (by simp)
  | cons x a ih =>
    cases b with
    | nil => exact absurd ((h x).1 (by simp)) (by simp)
    | cons y b =>
      obtain ⟨a1, a2⟩ := List.pairwise_cons.1 ha
      obtain ⟨b1, b2⟩ := List.pairwise_cons.1 hb
      have e : x = y := by
        rcases List.mem_cons.1 ((h x).1 (by simp)) with e | h1
        · exact e
        · rcases List.mem_cons.1 ((h y).2 (by simp)) with e | h2
          · exact e.symm
          · exact absurd (cmp_trans (a1 y h2) (b1 x h1)) (cmp_irrefl x)
      subst e
      rw [ih a2 b2 (fun c => ?_)]
      constructor
      · intro hc
        rcases List.mem_cons.1 ((h c).1 (by simp [hc])) with e | h1
        · subst e; exact absurd (a1 _ hc) (cmp_irrefl _)
        · exact h1
      · intro hc
        rcases List.mem_cons.1 ((h c).2 (by simp [hc])) with e | h1
        · subst e; exact absurd (b1 _ hc) (cmp_irrefl _)
        · exact h1
/-- What a sort leaves of cells of which none stands twice. -/
theorem ri_sorted {ys G : List Cl} (hp : ys.Perm G) (hn : G.Nodup) (hs : ys.Pairwise (fun a b => ¬ cmpC b a < 0)) : Ri ys := by
  have hn2 : ys.Nodup := hp.nodup_iff.2 hn
  refine (List.Pairwise.and hs hn2).imp (fun {a b} h => ?_)
  obtain ⟨h1, h2⟩ := h
  have hf := cmpC_flip b a
  have hz : cmpC a b ≠ 0 := fun h => h2 (cmpC_zero.1 h)
  have : cmpC a b = - cmpC b a := hf
  omega
/-- All cells of a list more, one behind the other. -/
def insAll (cs : List Cl) (L : List Cl) : List Cl := cs.foldl (fun L c => ins c L) L
theorem insAll_nil (L : List Cl) : insAll [] L = L := rfl
theorem insAll_take {cs : List Cl} {i : Nat} (h : i < cs.length) (L : List Cl) : insAll (cs.take (i + 1)) L = ins (cs[i]?.getD default) (insAll (cs.take i) L) := by
  unfold insAll
  rw [List.take_add_one, List.foldl_append]
  simp [h]
theorem mem_insAll {d : Cl} : ∀ {cs L : List Cl}, d ∈ insAll cs L ↔ d ∈ cs ∨ d ∈ L
  | [], L => by simp [insAll]
  | c :: cs, L => by
    show d ∈ insAll cs (ins c L) ↔ _
    rw [mem_insAll, mem_ins]
    simp only [List.mem_cons]
    constructor
    · rintro (h | h | h) <;> simp [h]
    · rintro ((h | h) | h) <;> simp [h]
theorem ri_insAll : ∀ {cs L : List Cl}, Ri L → Ri (insAll cs L)
  | [], _, h => h
  | c :: cs, _, h => ri_insAll (cs := cs) (ri_ins (c := c) h)
theorem insAll_len : ∀ (cs L : List Cl), (insAll cs L).length ≤ L.length + cs.length
  | [], L => by simp [insAll]
  | c :: cs, L => by
    have h1 := insAll_len cs (ins c L)
    have h2 := ins_len_le c L
    show (insAll cs (ins c L)).length ≤ _
    simp only [List.length_cons]
    omega

/-- May a key be? -/
def keyB (k : ByteArray) : Bool := decide (1 ≤ k.size ∧ k.size ≤ 32)
/-- Is a cell's window closed under a mark? -/
def shK (vs : List Vw) (m : Int) (c : Cl) : Bool := decide (c.s + (vs.getD c.v.toNat vw0).s + (vs.getD c.v.toNat vw0).l ≤ m)
/-- The error of a cell that is written. -/
def chkK (vs : List Vw) (m : Int) (c : Cl) : Int :=
  if c.v < 0 ∨ (vs.length : Int) ≤ c.v then 23 else if keyB c.k then (if c.s < -2305843009213693952 ∨ 2305843009213693952 < c.s then 22
    else if c.s.tmod (vs.getD c.v.toNat vw0).d ≠ 0 then 16 else if shK vs m c then 26 else 0) else 21
/-- The first error among cells. -/
def chkAll (vs : List Vw) (m : Int) : List Cl → Int
  | [] => 0
  | c :: cs => if chkK vs m c ≠ 0 then chkK vs m c else chkAll vs m cs
theorem chkAll_zero {vs : List Vw} {m : Int} {cs : List Cl} : chkAll vs m cs = 0 ↔ ∀ c ∈ cs, chkK vs m c = 0 := by
  induction cs with
  | nil => simp [chkAll]
  | cons c cs ih =>
    unfold chkAll
    by_cases h : chkK vs m c = 0
    · rw [if_neg (by simpa using h), ih]; simp [h]
    · rw [if_pos h]; simp [h]
theorem chkAll_at {vs : List Vw} {m : Int} {cs : List Cl} {i : Nat} (hi : i < cs.length) (hz : ∀ j, j < i → chkK vs m (cs[j]?.getD default) = 0) (h : chkK vs m (cs[i]?.getD default) ≠ 0) : chkAll vs m cs = chkK vs m (cs[i]?.getD default) := by
  induction cs generalizing i with
  | nil => simp at hi
  | cons c cs ih =>
    unfold chkAll
    cases i with
    | zero => simp at h ⊢; intro h2; exact absurd h2 h
    | succ i =>
      have h0 := hz 0 (by omega)
      simp at h0
      rw [if_neg (by simpa using h0), ih (i := i) (by simpa using hi) (fun j hj => by have := hz (j + 1) (by omega); simpa using this) (by simpa using h)]
      simp
/-- A cell that may be live. -/
structure OkK (vs : List Vw) (c : Cl) : Prop where
  v0 : 0 ≤ c.v
  v1 : c.v < (vs.length : Int)
  k1 : 1 ≤ c.k.size
  k2 : c.k.size ≤ 32
  s1 : -2305843009213693952 ≤ c.s
  s2 : c.s ≤ 2305843009213693952
theorem chkK_ok {vs : List Vw} {m : Int} {c : Cl} (h : chkK vs m c = 0) : OkK vs c ∧ c.s.tmod (vs.getD c.v.toNat vw0).d = 0 ∧ shK vs m c = false := by
  unfold chkK at h
  by_cases h1 : c.v < 0 ∨ (vs.length : Int) ≤ c.v
  · rw [if_pos h1] at h; omega
  · rw [if_neg h1] at h
    rcases h2 : keyB c.k with _ | _
    · rw [h2] at h; simp at h
    · rw [h2, if_pos rfl] at h
      by_cases h3 : c.s < -2305843009213693952 ∨ 2305843009213693952 < c.s
      · rw [if_pos h3] at h; omega
      · rw [if_neg h3] at h
        by_cases h4 : c.s.tmod (vs.getD c.v.toNat vw0).d ≠ 0
        · rw [if_pos h4] at h; omega
        · rw [if_neg h4] at h
          rcases h5 : shK vs m c with _ | _
          · unfold keyB at h2
            have h2 := of_decide_eq_true h2
            exact ⟨⟨by omega, by omega, h2.1, h2.2, by omega, by omega⟩, by simpa using h4, rfl⟩
          · rw [h5] at h; simp at h

/-- Cells as values. -/
def kv (L : List Cl) : List Value := L.flatMap fun c => [.int .i64 c.v, .string c.k, .int .i64 c.s]
theorem kv_append (a b : List Cl) : kv (a ++ b) = kv a ++ kv b := by simp [kv]
theorem kv_cons (c : Cl) (L : List Cl) : kv (c :: L) = [.int .i64 c.v, .string c.k, .int .i64 c.s] ++ kv L := by simp [kv]
theorem kv_length (L : List Cl) : (kv L).length = L.length * 3 := by
  induction L with
  | nil => rfl
  | cons x L ih => rw [kv_cons, List.length_append, ih, List.length_cons]; simp; omega
theorem kv_split {L : List Cl} {i : Nat} (hi : i < L.length) : kv L = kv (L.take i) ++ ([.int .i64 (L[i]?.getD default).v, .string (L[i]?.getD default).k, .int .i64 (L[i]?.getD default).s] ++ kv (L.drop (i + 1))) := by
  have e : L = L.take i ++ (L[i]?.getD default) :: L.drop (i + 1) := by
    have h1 : L[i]?.getD default = L[i] := by simp [hi]
    rw [h1, List.getElem_cons_drop, List.take_append_drop]
  conv => lhs; rw [e]
  rw [kv_append, kv_cons]
theorem kv_get {L : List Cl} {i : Nat} (hi : i < L.length) (rest : List Value) : (kv L ++ rest)[i * 3]? = some (.int .i64 (L[i]?.getD default).v) ∧ (kv L ++ rest)[i * 3 + 1]? = some (.string (L[i]?.getD default).k) ∧ (kv L ++ rest)[i * 3 + 2]? = some (.int .i64 (L[i]?.getD default).s) := by
  have hl : (kv (L.take i)).length = i * 3 := by rw [kv_length, List.length_take]; omega
  rw [kv_split hi]
  refine ⟨?_, ?_, ?_⟩
  · rw [List.append_assoc, List.getElem?_append_right (by omega), hl, Nat.sub_self]; rfl
  · rw [List.append_assoc, List.getElem?_append_right (by omega), hl, show i * 3 + 1 - i * 3 = 1 by omega]; rfl
  · rw [List.append_assoc, List.getElem?_append_right (by omega), hl, show i * 3 + 2 - i * 3 = 2 by omega]; rfl
theorem kv_set {L : List Cl} {i : Nat} (hi : i < L.length) (c : Cl) (rest : List Value) : (((kv L ++ rest).set (i * 3) (.int .i64 c.v)).set (i * 3 + 1) (.string c.k)).set (i * 3 + 2) (.int .i64 c.s) = kv (L.set i c) ++ rest := by
  have hl : (kv (L.take i)).length = i * 3 := by rw [kv_length, List.length_take]; omega
  have e : L.set i c = L.take i ++ c :: L.drop (i + 1) := by rw [List.set_eq_take_append_cons_drop, if_pos hi]
  rw [e, kv_append, kv_cons, kv_split hi, List.append_assoc, List.set_append_right _ _ (by omega), hl, Nat.sub_self, List.set_append_right _ _ (by omega), hl, show i * 3 + 1 - i * 3 = 1 by omega, List.set_append_right _ _ (by omega), hl, show i * 3 + 2 - i * 3 = 2 by omega]
  simp
/-- Cells that bear a key now. -/
def keyed (k : ByteArray) (L : List Ce) : List Cl := L.map fun c => ⟨(c.v : Int), k, c.s⟩
end Go.Proofs.Ytbhhpkbiflolfaa.V
