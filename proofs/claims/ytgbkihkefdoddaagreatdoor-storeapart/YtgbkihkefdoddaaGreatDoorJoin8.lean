/- Chains as lists of versions: what Put, Kill, At, Prune make of them, and what follows (P507, P508). Nothing of the program is used here. -/
namespace Go.Proofs.YtgbkihkefdoddaaGreatDoor.G

/-- Fits an int. -/
def fits (x : Int) : Prop := -9223372036854775808 ≤ x ∧ x ≤ 9223372036854775807

/-- An aggregate: count, sum, least, most. -/
structure A4 where
  c : Int
  s : Int
  m : Int
  x : Int
deriving DecidableEq
def a0 : A4 := ⟨0, 0, 0, 0⟩
def fit4 (a : A4) : Prop := fits a.c ∧ fits a.s ∧ fits a.m ∧ fits a.x

/-- A version: its epoch, whether it is a value, the value. -/
structure Vn where
  e : Int
  t : Bool
  v : A4
deriving DecidableEq

/-- What is said where there is none. -/
def z0 : Vn := ⟨0, false, a0⟩

/-- A right version. -/
def Vn.ok (x : Vn) : Prop := 1 ≤ x.e ∧ x.e ≤ 1099511627776 ∧ fit4 x.v ∧ (x.t = false → x.v = a0)

/-- A right chain: right versions that rise. -/
def Good (L : List Vn) : Prop := (∀ x ∈ L, x.ok) ∧ L.Pairwise (fun a b => a.e < b.e)
theorem Good.nil : Good [] := ⟨fun x h => by simp at h, List.Pairwise.nil⟩
theorem Good.tail {x : Vn} {L : List Vn} (h : Good (x :: L)) : Good L := ⟨fun y hy => h.1 y (List.mem_cons_of_mem _ hy), (List.pairwise_cons.1 h.2).2⟩

/-- The newest version. -/
def nw (L : List Vn) : Vn := L.getLast?.getD z0
theorem nw_nil : nw [] = z0 := rfl
theorem nw_snoc (L : List Vn) (x : Vn) : nw (L ++ [x]) = x := by simp [nw]
theorem nw_mem {L : List Vn} (h : L ≠ []) : nw L ∈ L := by
  unfold nw
  rw [List.getLast?_eq_some_getLast h]
  exact List.getLast_mem h
theorem snoc_of {L : List Vn} (h : L ≠ []) : L = L.dropLast ++ [nw L] := by
  have := (List.dropLast_concat_getLast h).symm
  rw [show L.getLast h = nw L by unfold nw; rw [List.getLast?_eq_some_getLast h]; rfl] at this
  exact this
theorem nw_getD (L : List Vn) (h : L ≠ []) : nw L = L.getD (L.length - 1) z0 := by
  have hl : 0 < L.length := List.length_pos_iff.2 h
  unfold nw
  rw [List.getLast?_eq_getElem?]
  rfl
theorem Good.last {L : List Vn} (h : Good L) {x : Vn} (hx : x ∈ L) : x.e ≤ (nw L).e := by
  have hne : L ≠ [] := List.ne_nil_of_mem hx
  have h2 := h.2
  rw [snoc_of hne] at h2 hx
  rw [List.pairwise_append] at h2
  rw [List.mem_append] at hx
  rcases hx with hx | hx
  · exact Int.le_of_lt (h2.2.2 x hx _ (by simp))
  · simp at hx
    rw [hx]
    exact Int.le_refl _
theorem nw_fits {L : List Vn} (h : Good L) : 0 ≤ (nw L).e ∧ (nw L).e ≤ 1099511627776 ∧ fit4 (nw L).v ∧ ((nw L).t = false → (nw L).v = a0) := by
  by_cases hL : L = []
  · subst hL
    exact ⟨by decide, by decide, by unfold fit4 fits; decide, fun _ => rfl⟩
  · have := h.1 _ (nw_mem hL)
    exact ⟨by have := this.1; omega, this.2.1, this.2.2.1, this.2.2.2⟩
theorem nw_zero {L : List Vn} (h : Good L) : (nw L).e = 0 ↔ L = [] := by
  constructor
  · intro h0
    by_cases hL : L = []
    · exact hL
    · have := (h.1 _ (nw_mem hL)).1
      omega
  · rintro rfl
    rfl

/-- May something be written at an epoch? The error's number. -/
def wrong (L : List Vn) (e : Int) : Int := if e < 1 ∨ 1099511627776 < e then 1 else if e < (nw L).e then 32 else 0
/-- Laying a version. -/
def layL (L : List Vn) (x : Vn) : List Vn := if x.e = (nw L).e then L.dropLast ++ [x] else L ++ [x]
def layN (L : List Vn) (x : Vn) : Int := if x.e = (nw L).e then 0 else 1
/-- Put: the chain, how many more, the error. -/
def putL (L : List Vn) (e : Int) (x : A4) : List Vn := if wrong L e = 0 then layL L ⟨e, true, x⟩ else L
def putN (L : List Vn) (e : Int) : Int := if wrong L e = 0 then (if e = (nw L).e then 0 else 1) else 0
/-- Kill's error. -/
def gone (L : List Vn) (e : Int) : Int := if wrong L e = 0 then (if (nw L).t then 0 else 44) else wrong L e
def killL (L : List Vn) (e : Int) : List Vn := if gone L e = 0 then layL L ⟨e, false, a0⟩ else L
def killN (L : List Vn) (e : Int) : Int := if gone L e = 0 then (if e = (nw L).e then 0 else 1) else 0

theorem layL_nw (L : List Vn) (x : Vn) : nw (layL L x) = x := by unfold layL; split <;> exact nw_snoc _ _
theorem layL_len {L : List Vn} (hg : Good L) (x : Vn) (hx : x.ok) : ((layL L x).length : Int) = L.length + layN L x := by
  unfold layL layN
  by_cases h : x.e = (nw L).e
  · rw [if_pos h, if_pos h]
    have hL : L ≠ [] := by
      intro e
      subst e
      have := hx.1
      simp [nw, z0] at h
      omega
    have := List.length_pos_iff.2 hL
    simp
    omega
  · rw [if_neg h, if_neg h]
    simp
theorem layL_good {L : List Vn} (hg : Good L) {x : Vn} (hx : x.ok) (hle : (nw L).e ≤ x.e) : Good (layL L x) := by
  unfold layL
  by_cases h : x.e = (nw L).e
  · rw [if_pos h]
    have hL : L ≠ [] := by
      intro e
      subst e
      have := hx.1
      simp [nw, z0] at h
      omega
    refine ⟨fun y hy => ?_, ?_⟩
    · rw [List.mem_append] at hy
      rcases hy with hy | hy
      · exact hg.1 y (List.dropLast_subset _ hy)
      · simp at hy
        subst hy
        exact hx
    · have h2 := hg.2
      rw [snoc_of hL, List.pairwise_append] at h2
      rw [List.pairwise_append]
      refine ⟨h2.1, by simp, fun a ha b hb => ?_⟩
      simp at hb
      subst hb
      rw [h]
      exact h2.2.2 a ha _ (by simp)
  · rw [if_neg h]
    refine ⟨fun y hy => ?_, ?_⟩
    · rw [List.mem_append] at hy
      rcases hy with hy | hy
      · exact hg.1 y hy
      · simp at hy
        subst hy
        exact hx
    · rw [List.pairwise_append]
      refine ⟨hg.2, by simp, fun a ha b hb => ?_⟩
      simp at hb
      subst hb
      have := hg.last ha
      omega
theorem wrong_zero {L : List Vn} {e : Int} (h : wrong L e = 0) : 1 ≤ e ∧ e ≤ 1099511627776 ∧ (nw L).e ≤ e := by
  unfold wrong at h
  by_cases h1 : e < 1 ∨ 1099511627776 < e
  · rw [if_pos h1] at h
    omega
  · rw [if_neg h1] at h
    by_cases h2 : e < (nw L).e
    · rw [if_pos h2] at h
      omega
    · omega
theorem gone_zero {L : List Vn} {e : Int} (h : gone L e = 0) : wrong L e = 0 ∧ (nw L).t = true := by
  unfold gone at h
  by_cases h1 : wrong L e = 0
  · rw [if_pos h1] at h
    cases ht : (nw L).t
    · rw [ht] at h
      simp at h
    · exact ⟨h1, rfl⟩
  · rw [if_neg h1] at h
    exact absurd h h1
theorem putL_good {L : List Vn} (hg : Good L) (e : Int) {x : A4} (hx : fit4 x) : Good (putL L e x) := by
  unfold putL
  by_cases h : wrong L e = 0
  · rw [if_pos h]
    obtain ⟨h1, h2, h3⟩ := wrong_zero h
    exact layL_good hg ⟨h1, h2, hx, fun h => by cases h⟩ h3
  · rw [if_neg h]
    exact hg
theorem killL_good {L : List Vn} (hg : Good L) (e : Int) : Good (killL L e) := by
  unfold killL
  by_cases h : gone L e = 0
  · rw [if_pos h]
    obtain ⟨h1, h2, h3⟩ := wrong_zero (gone_zero h).1
    exact layL_good hg ⟨h1, h2, by unfold fit4 fits a0; simp, fun _ => rfl⟩ h3
  · rw [if_neg h]
    exact hg

/-- How many versions are of epochs at or below one. -/
def up : List Vn → Int → Nat
  | [], _ => 0
  | x :: r, h => if x.e ≤ h then up r h + 1 else 0
theorem up_le (L : List Vn) (h : Int) : up L h ≤ L.length := by
  induction L with
  | nil => exact Nat.le_refl _
  | cons x r ih =>
    unfold up
    split
    · simp; exact ih
    · omega
/-- In a rising chain just the first ones are of such epochs. -/
theorem up_iff {L : List Vn} (hp : L.Pairwise (fun a b => a.e < b.e)) (h : Int) : ∀ i, i < L.length → (i < up L h ↔ (L.getD i z0).e ≤ h) := by
  induction L with
  | nil => intro i hi; simp at hi
  | cons x r ih =>
    intro i hi
    obtain ⟨h1, h2⟩ := List.pairwise_cons.1 hp
    unfold up
    cases i with
    | zero =>
      by_cases hx : x.e ≤ h
      · simp [hx]
      · simp [hx]
    | succ j =>
      have hj : j < r.length := by simpa using hi
      have := ih h2 j hj
      by_cases hx : x.e ≤ h
      · rw [if_pos hx]
        simp only [List.getD_cons_succ]
        omega
      · rw [if_neg hx]
        simp only [List.getD_cons_succ]
        have hlt : x.e < (r.getD j z0).e := h1 _ (by simp [List.getD, hj])
        omega
/-- The number that the halving comes to. -/
theorem up_eq {L : List Vn} (hp : L.Pairwise (fun a b => a.e < b.e)) (h : Int) {k : Nat} (hk : k ≤ L.length) (hlo : ∀ i, i < k → (L.getD i z0).e ≤ h) (hhi : k < L.length → h < (L.getD k z0).e) : up L h = k := by
  have hle := up_le L h
  rcases Nat.lt_trichotomy (up L h) k with h1 | h1 | h1
  · have h2 := hlo (up L h) h1
    have := (up_iff hp h (up L h) (by omega)).2 h2
    omega
  · exact h1
  · have h2 := hhi (by omega)
    have := (up_iff hp h k (by omega)).1 h1
    omega

/-- What it is at an epoch: the last version of those at or below it. -/
def atL (L : List Vn) (h : Int) : Vn := nw (L.take (up L h))
def atR : Vn → List Vn → Int → Vn
  | d, [], _ => d
  | d, x :: r, h => if x.e ≤ h then atR x r h else d
theorem atR_eq (L : List Vn) (h : Int) : ∀ d, atR d L h = (L.take (up L h)).getLast?.getD d := by
  induction L with
  | nil => intro d; rfl
  | cons x r ih =>
    intro d
    unfold atR up
    by_cases hx : x.e ≤ h
    · rw [if_pos hx, if_pos hx, ih x, List.take_succ_cons, List.getLast?_cons]
      rfl
    · rw [if_neg hx, if_neg hx]
      rfl
theorem atL_eq (L : List Vn) (h : Int) : atL L h = atR z0 L h := (atR_eq L h z0).symm
theorem atR_none {L : List Vn} {h : Int} (hL : ∀ x ∈ L, h < x.e) (d : Vn) : atR d L h = d := by
  cases L with
  | nil => rfl
  | cons x r =>
    have := hL x (by simp)
    unfold atR
    rw [if_neg (by omega)]
theorem atR_all {L : List Vn} {h : Int} : ∀ (d : Vn), (∀ x ∈ L, x.e ≤ h) → atR d L h = L.getLast?.getD d := by
  induction L with
  | nil => intro d _; rfl
  | cons x r ih =>
    intro d hL
    unfold atR
    rw [if_pos (hL x (by simp)), ih x (fun y hy => hL y (List.mem_cons_of_mem _ hy)), List.getLast?_cons]
    rfl
theorem atL_new {L : List Vn} (hg : Good L) {h : Int} (hh : (nw L).e ≤ h) : atL L h = nw L := by
  rw [atL_eq, atR_all _ (fun x hx => Int.le_trans (hg.last hx) hh)]
  rfl
theorem atL_fits {L : List Vn} (hg : Good L) (h : Int) : fit4 (atL L h).v ∧ ((atL L h).t = false → (atL L h).v = a0) := by
  have : Good (L.take (up L h)) := ⟨fun x hx => hg.1 x (List.take_subset _ _ hx), hg.2.sublist (List.take_sublist _ _)⟩
  exact ⟨(nw_fits this).2.2.1, (nw_fits this).2.2.2⟩

/-- The versions that stay: the newest, and those of held epochs. -/
def keepR (held : List Int) : List Vn → List Vn
  | [] => []
  | [x] => [x]
  | x :: y :: r => if held.any (fun h => decide (x.e ≤ h ∧ h < y.e)) then x :: keepR held (y :: r) else keepR held (y :: r)
theorem keepR_sub (held : List Int) : ∀ L : List Vn, (keepR held L).Sublist L
  | [] => List.Sublist.refl _
  | [x] => List.Sublist.refl _
  | x :: y :: r => by
    unfold keepR
    split
    · exact (keepR_sub held (y :: r)).cons_cons x
    · exact (keepR_sub held (y :: r)).cons x
theorem keepR_good {held : List Int} {L : List Vn} (hg : Good L) : Good (keepR held L) :=
  ⟨fun x hx => hg.1 x ((keepR_sub held L).subset hx), hg.2.sublist (keepR_sub held L)⟩
theorem keepR_last (held : List Int) : ∀ (x : Vn) (L : List Vn), (keepR held (x :: L)).getLast? = (x :: L).getLast?
  | x, [] => rfl
  | x, y :: r => by
    unfold keepR
    have ih := keepR_last held y r
    split
    · rw [List.getLast?_cons, ih, List.getLast?_cons (a := x)]
    · rw [ih, List.getLast?_cons (a := x), List.getLast?_cons (a := y)]
      simp
theorem keepR_nw (held : List Int) (L : List Vn) : nw (keepR held L) = nw L := by
  cases L with
  | nil => rfl
  | cons x r =>
    unfold nw
    rw [keepR_last]
theorem keepR_at {held : List Int} {h : Int} (hh : h ∈ held) : ∀ (L : List Vn) (d : Vn), L.Pairwise (fun a b => a.e < b.e) → atR d (keepR held L) h = atR d L h
  | [], _, _ => rfl
  | [x], _, _ => rfl
  | x :: y :: r, d, hp => by
    obtain ⟨h1, h2⟩ := List.pairwise_cons.1 hp
    have hxy := h1 y (by simp)
    by_cases hx : x.e ≤ h
    · unfold keepR
      by_cases ha : held.any (fun h => decide (x.e ≤ h ∧ h < y.e)) = true
      · rw [if_pos ha]
        unfold atR
        rw [if_pos hx, if_pos hx]
        exact keepR_at hh (y :: r) x h2
      · rw [if_neg ha, keepR_at hh (y :: r) d h2]
        have hy : y.e ≤ h := by
          rcases Int.lt_or_le h y.e with h3 | h3
          · exact absurd (List.any_eq_true.2 ⟨h, hh, by simp; exact ⟨hx, h3⟩⟩) ha
          · exact h3
        show atR d (y :: r) h = atR d (x :: y :: r) h
        unfold atR
        rw [if_pos hy, if_pos hx]
        conv => rhs; unfold atR
        rw [if_pos hy]
    · have hall : ∀ z ∈ x :: y :: r, h < z.e := by
        intro z hz
        rcases List.mem_cons.1 hz with rfl | hz
        · omega
        · have := h1 z hz
          omega
      rw [atR_none hall, atR_none (fun z hz => hall z ((keepR_sub held _).subset hz))]
/-- What is left, and how Prune lays it. -/
def pruneL (held : List Int) (L : List Vn) : List Vn := if (keepR held L).length = 1 ∧ (nw L).t = false then [] else keepR held L
theorem pruneL_sub (held : List Int) (L : List Vn) : (pruneL held L).Sublist L := by
  unfold pruneL
  split
  · exact List.nil_sublist _
  · exact keepR_sub held L
theorem pruneL_good {held : List Int} {L : List Vn} (hg : Good L) : Good (pruneL held L) :=
  ⟨fun x hx => hg.1 x ((pruneL_sub held L).subset hx), hg.2.sublist (pruneL_sub held L)⟩
/-- What At tells. -/
def tell (x : Vn) : A4 × Bool := (x.v, x.t)
theorem tell_dead {x : Vn} (h : x.t = false) (hz : x.t = false → x.v = a0) : tell x = tell z0 := by
  unfold tell
  rw [hz h, h]
  rfl
theorem single_nw {L : List Vn} (h : L.length = 1) : L = [nw L] := by
  match L, h with
  | [x], _ => rfl
/-- P507: At of a held epoch is not changed, nor of one at or above the newest version's. -/
theorem pruneL_at {held : List Int} {L : List Vn} (hg : Good L) {h : Int} (hh : h ∈ held ∨ (nw L).e ≤ h) : tell (atL (pruneL held L) h) = tell (atL L h) := by
  have hk : atL (keepR held L) h = atL L h := by
    rcases hh with hh | hh
    · rw [atL_eq, atL_eq]
      exact keepR_at hh L z0 hg.2
    · rw [atL_new hg hh, atL_new (keepR_good hg) (by rw [keepR_nw]; exact hh), keepR_nw]
  unfold pruneL
  split
  · rename_i hc
    obtain ⟨h1, h2⟩ := hc
    rw [← hk]
    have e := single_nw h1
    rw [keepR_nw] at e
    rw [e]
    have hd := tell_dead h2 (nw_fits hg).2.2.2
    show tell z0 = tell (atL [nw L] h)
    rw [atL_eq]
    unfold atR
    split
    · exact hd.symm
    · rfl
  · rw [hk]
theorem keepR_one {held : List Int} {L : List Vn} (hL : L ≠ []) : 1 ≤ (keepR held L).length := by
  cases L with
  | nil => exact absurd rfl hL
  | cons x r =>
    apply List.length_pos_iff.2
    intro e
    have := keepR_last held x r
    rw [e, List.getLast?_cons] at this
    simp at this
theorem pruneL_nw {held : List Int} {L : List Vn} : nw (pruneL held L) = nw L ∨ (pruneL held L = [] ∧ (nw L).t = false) := by
  unfold pruneL
  split
  · rename_i hc
    exact Or.inr ⟨rfl, hc.2⟩
  · exact Or.inl (keepR_nw held L)
theorem pruneL_alone {held : List Int} {L : List Vn} (h : (pruneL held L).length = 1) : (nw (pruneL held L)).t = true := by
  unfold pruneL at h ⊢
  split
  · rename_i hc
    rw [if_pos hc] at h
    simp at h
  · rename_i hc
    rw [if_neg hc] at h
    rw [keepR_nw]
    cases ht : (nw L).t
    · exact absurd ⟨h, ht⟩ hc
    · rfl
/-- Again, nothing goes. -/
theorem keepR_head (held : List Int) : ∀ (x : Vn) (L : List Vn), (x :: L).Pairwise (fun a b => a.e < b.e) → ∃ y r, keepR held (x :: L) = y :: r ∧ x.e ≤ y.e
  | x, [], _ => ⟨x, [], rfl, Int.le_refl _⟩
  | x, y :: r, hp => by
    obtain ⟨h1, h2⟩ := List.pairwise_cons.1 hp
    unfold keepR
    split
    · exact ⟨x, _, rfl, Int.le_refl _⟩
    · obtain ⟨z, s, e, hz⟩ := keepR_head held y r h2
      have := h1 y (by simp)
      exact ⟨z, s, e, by omega⟩
theorem keepR_again (held : List Int) : ∀ L : List Vn, L.Pairwise (fun a b => a.e < b.e) → keepR held (keepR held L) = keepR held L
  | [], _ => rfl
  | [x], _ => rfl
  | x :: y :: r, hp => by
    obtain ⟨h1, h2⟩ := List.pairwise_cons.1 hp
    have ih := keepR_again held (y :: r) h2
    conv => lhs; arg 2; unfold keepR
    conv => rhs; unfold keepR
    by_cases ha : held.any (fun h => decide (x.e ≤ h ∧ h < y.e)) = true
    · rw [if_pos ha]
      obtain ⟨z, s, e, hz⟩ := keepR_head held y r h2
      rw [e] at ih ⊢
      have hb : held.any (fun h => decide (x.e ≤ h ∧ h < z.e)) = true := by
        obtain ⟨h, hh, hd⟩ := List.any_eq_true.1 ha
        simp at hd
        exact List.any_eq_true.2 ⟨h, hh, by simp; omega⟩
      unfold keepR
      rw [if_pos hb, ih]
    · rw [if_neg ha]
      exact ih
theorem pruneL_again {held : List Int} {L : List Vn} (hg : Good L) : pruneL held (pruneL held L) = pruneL held L := by
  unfold pruneL
  by_cases hc : (keepR held L).length = 1 ∧ (nw L).t = false
  · rw [if_pos hc]
    rfl
  · rw [if_neg hc, keepR_again held L hg.2, keepR_nw, if_neg hc]

/-- How many unlike numbers there are. -/
def unl : List Int → Nat
  | [] => 0
  | x :: l => unl l + (if l.contains x then 0 else 1)
theorem unl_le (l : List Int) : unl l ≤ l.length := by
  induction l with
  | nil => exact Nat.le_refl _
  | cons x l ih =>
    unfold unl
    simp only [List.length_cons]
    split <;> omega
theorem unl_sub : ∀ (l W : List Int), W.Nodup → (∀ x ∈ W, x ∈ l) → W.length ≤ unl l
  | [], W, _, h => by
    cases W with
    | nil => exact Nat.le_refl _
    | cons x W => have := h x (by simp); simp at this
  | x :: l, W, hn, h => by
    unfold unl
    by_cases hx : l.contains x = true
    · rw [if_pos hx]
      refine unl_sub l W hn (fun y hy => ?_)
      rcases List.mem_cons.1 (h y hy) with rfl | h1
      · simpa using hx
      · exact h1
    · rw [if_neg hx]
      have h1 := unl_sub l (W.erase x) (hn.erase x) (fun y hy => by
        have hy2 := (List.Nodup.mem_erase_iff hn).1 hy
        rcases List.mem_cons.1 (h y hy2.2) with h3 | h3
        · exact absurd h3 hy2.1
        · exact h3)
      have := List.length_erase_le (a := x) (l := W)
      have h4 : W.length ≤ (W.erase x).length + 1 := by
        rw [List.length_erase]
        split <;> omega
      omega
theorem keepR_wit (held : List Int) : ∀ (x : Vn) (L : List Vn), (x :: L).Pairwise (fun a b => a.e < b.e) → ∃ W : List Int, W.Nodup ∧ (∀ h ∈ W, h ∈ held ∧ x.e ≤ h) ∧ (keepR held (x :: L)).length = W.length + 1
  | x, [], _ => ⟨[], List.nodup_nil, fun h hh => by simp at hh, rfl⟩
  | x, y :: r, hp => by
    obtain ⟨h1, h2⟩ := List.pairwise_cons.1 hp
    have hxy := h1 y (by simp)
    obtain ⟨W, hn, hW, hl⟩ := keepR_wit held y r h2
    unfold keepR
    by_cases ha : held.any (fun h => decide (x.e ≤ h ∧ h < y.e)) = true
    · rw [if_pos ha]
      obtain ⟨h, hh, hd⟩ := List.any_eq_true.1 ha
      simp at hd
      refine ⟨h :: W, List.nodup_cons.2 ⟨fun hm => by have := (hW h hm).2; omega, hn⟩, fun k hk => ?_, by simp [hl]⟩
      rcases List.mem_cons.1 hk with rfl | hk
      · exact ⟨hh, hd.1⟩
      · exact ⟨(hW k hk).1, by have := (hW k hk).2; omega⟩
    · rw [if_neg ha]
      exact ⟨W, hn, fun k hk => ⟨(hW k hk).1, by have := (hW k hk).2; omega⟩, hl⟩
theorem pruneL_len {held : List Int} {L : List Vn} (hg : Good L) : (pruneL held L).length ≤ unl held + 1 := by
  have hk : (keepR held L).length ≤ unl held + 1 := by
    cases L with
    | nil => simp [keepR]
    | cons x r =>
      obtain ⟨W, hn, hW, hl⟩ := keepR_wit held x r hg.2
      rw [hl]
      have := unl_sub held W hn (fun y hy => (hW y hy).1)
      omega
  unfold pruneL
  split
  · simp
  · exact hk

/-- By places: those that a row of marks keeps. -/
def keepB : List Vn → List Bool → List Vn
  | x :: L, b :: B => if b then x :: keepB L B else keepB L B
  | _, _ => []
/-- Is the version at a place needed? -/
def need (held : List Int) (L : List Vn) (i : Nat) : Bool := decide (i + 1 = L.length) || held.any (fun h => decide (up L h = i + 1))
theorem keepB_eq (held : List Int) : ∀ (L : List Vn), L.Pairwise (fun a b => a.e < b.e) → ∀ B : List Bool, B.length = L.length → (∀ i, i < L.length → B.getD i false = need held L i) → keepB L B = keepR held L
  | [], _, B, hl, _ => by
    have : B = [] := List.eq_nil_of_length_eq_zero (by simpa using hl)
    subst this
    rfl
  | [x], _, B, hl, h => by
    match B, hl with
    | [b], _ =>
      have := h 0 (by simp)
      simp [need] at this
      subst this
      rfl
  | x :: y :: r, hp, B, hl, h => by
    match B, hl with
    | b :: B, hl =>
      obtain ⟨h1, h2⟩ := List.pairwise_cons.1 hp
      have hxy := h1 y (by simp)
      have ih := keepB_eq held (y :: r) h2 B (by simpa using hl) (fun i hi => by
        have h3 := h (i + 1) (by simp at hi ⊢; omega)
        simp only [List.getD_cons_succ] at h3
        rw [h3]
        unfold need
        congr 1
        · simp only [List.length_cons, Nat.add_right_cancel_iff]
        · congr 1
          funext k
          congr 1
          apply propext
          conv => lhs; lhs; unfold up
          constructor
          · intro hu
            by_cases hx : x.e ≤ k
            · rw [if_pos hx] at hu
              omega
            · rw [if_neg hx] at hu
              omega
          · intro hu
            have hy : y.e ≤ k := by
              rcases Int.lt_or_le k y.e with h4 | h4
              · unfold up at hu
                rw [if_neg (by omega)] at hu
                omega
              · exact h4
            rw [if_pos (by omega), hu])
      have hb := h 0 (by simp)
      simp only [List.getD_cons_zero] at hb
      have hb2 : b = held.any (fun h => decide (x.e ≤ h ∧ h < y.e)) := by
        rw [hb]
        unfold need
        have : decide (0 + 1 = (x :: y :: r).length) = false := by simp
        rw [this, Bool.false_or]
        congr 1
        funext k
        congr 1
        apply propext
        constructor
        · intro hu
          by_cases hx : x.e ≤ k
          · by_cases hy : y.e ≤ k
            · simp [up, hx, hy] at hu
            · exact ⟨hx, by omega⟩
          · simp [up, hx] at hu
        · rintro ⟨hx, hy⟩
          simp [up, hx, show ¬ y.e ≤ k by omega]
      show (if b then x :: keepB (y :: r) B else keepB (y :: r) B) = _
      unfold keepR
      rw [ih, hb2]
theorem keepB_take {L : List Vn} {B : List Bool} (i : Nat) (hi : i < L.length) (hB : B.length = L.length) : keepB (L.take (i + 1)) (B.take (i + 1)) = keepB (L.take i) (B.take i) ++ (if B.getD i false then [L.getD i z0] else []) := by
  induction i generalizing L B with
  | zero =>
    match L, B, hi, hB with
    | x :: L, b :: B, _, _ =>
      cases b <;> rfl
  | succ j ih =>
    match L, B, hi, hB with
    | x :: L, b :: B, hi, hB =>
      have := ih (L := L) (B := B) (by simpa using hi) (by simpa using hB)
      cases b
      · simpa [keepB] using this
      · simp only [List.take_succ_cons, keepB, if_true, List.getD_cons_succ]
        rw [this]
        rfl
theorem keepB_len : ∀ (L : List Vn) (B : List Bool), (keepB L B).length ≤ L.length
  | [], _ => by simp [keepB]
  | x :: L, [] => by simp [keepB]
  | x :: L, b :: B => by
    have := keepB_len L B
    cases b
    · simp [keepB]; omega
    · simp [keepB]; exact this
end Go.Proofs.YtgbkihkefdoddaaGreatDoor.G
