/- Sets of epochs as rising lists; a book of epochs, as the document has it. Nothing of the program is used here. -/
namespace Go.Proofs.Ytimefcmemklhpaa.E

/-- A rising list. -/
abbrev Ri (l : List Int) : Prop := l.Pairwise (· < ·)
/-- With a number more. -/
def ins (e : Int) : List Int → List Int
  | [] => [e]
  | a :: l => if e < a then e :: a :: l else if e = a then a :: l else a :: ins e l
/-- Without a number. -/
def del (e : Int) (l : List Int) : List Int := l.filter (fun x => decide (x ≠ e))
/-- Is it there? -/
def hasB (l : List Int) (e : Int) : Bool := decide (e ∈ l)
theorem hasB_true {l : List Int} {e : Int} : hasB l e = true ↔ e ∈ l := by simp [hasB]
theorem hasB_false {l : List Int} {e : Int} : hasB l e = false ↔ e ∉ l := by simp [hasB]

theorem mem_ins {e x : Int} : ∀ {l : List Int}, x ∈ ins e l ↔ x = e ∨ x ∈ l
  | [] => by simp [ins]
  | a :: l => by
    unfold ins
    split
    · simp
    · split
      · rename_i h; subst h; simp
      · simp [mem_ins (l := l)]; constructor <;> (intro h; rcases h with h | h | h <;> simp [h])
theorem ri_ins {e : Int} : ∀ {l : List Int}, Ri l → Ri (ins e l)
  | [], _ => by simp [ins]
  | a :: l, h => by
    have h' := List.pairwise_cons.1 h
    unfold ins
    split
    · rename_i hlt
      refine List.pairwise_cons.2 ⟨fun x hx => ?_, h⟩
      rcases List.mem_cons.1 hx with rfl | hx
      · exact hlt
      · have := h'.1 x hx; omega
    · split
      · exact h
      · refine List.pairwise_cons.2 ⟨fun x hx => ?_, ri_ins h'.2⟩
        rcases mem_ins.1 hx with rfl | hx
        · omega
        · exact h'.1 x hx
theorem mem_del {e x : Int} {l : List Int} : x ∈ del e l ↔ x ∈ l ∧ x ≠ e := by simp [del]
theorem ri_del {e : Int} {l : List Int} (h : Ri l) : Ri (del e l) := h.filter _
theorem ri_nodup {l : List Int} (h : Ri l) : l.Nodup := h.imp (fun {a b} hab => by omega)
theorem ri_ext : ∀ {l l' : List Int}, Ri l → Ri l' → (∀ x, x ∈ l ↔ x ∈ l') → l = l'
  | [], [], _, _, _ => rfl
  | [], b :: l', _, _, h => absurd ((h b).2 (by simp)) (by simp)
  | a :: l, [], _, _, h => absurd ((h a).1 (by simp)) (by simp)
  | a :: l, b :: l', h1, h2, h => by
    have h1' := List.pairwise_cons.1 h1
    have h2' := List.pairwise_cons.1 h2
    have e : a = b := by
      have ha := (h a).1 (by simp)
      have hb := (h b).2 (by simp)
      rcases List.mem_cons.1 ha with r | r
      · exact r
      · rcases List.mem_cons.1 hb with s | s
        · exact s.symm
        · have := h1'.1 b s; have := h2'.1 a r; omega
    subst e
    congr 1
    refine ri_ext h1'.2 h2'.2 (fun x => ?_)
    constructor
    · intro hx
      rcases List.mem_cons.1 ((h x).1 (by simp [hx])) with rfl | r
      · have := h1'.1 x hx; omega
      · exact r
    · intro hx
      rcases List.mem_cons.1 ((h x).2 (by simp [hx])) with rfl | r
      · have := h2'.1 x hx; omega
      · exact r
theorem ins_len {e : Int} : ∀ {l : List Int}, Ri l → (ins e l).length = if e ∈ l then l.length else l.length + 1
  | [], _ => by simp [ins]
  | a :: l, h => by
    have h' := List.pairwise_cons.1 h
    unfold ins
    split
    · rename_i hlt
      have : e ∉ a :: l := by
        intro hx
        rcases List.mem_cons.1 hx with rfl | hx
        · omega
        · have := h'.1 e hx; omega
      simp [this]
    · split
      · rename_i h2; subst h2; simp
      · rename_i h1 h2
        have := ins_len (e := e) h'.2
        by_cases hm : e ∈ l
        · simp [hm] at this ⊢; exact this
        · simp [hm, h2] at this ⊢; exact this
theorem del_len {e : Int} : ∀ {l : List Int}, Ri l → (del e l).length + (if e ∈ l then 1 else 0) = l.length
  | [], _ => by simp [del]
  | a :: l, h => by
    have h' := List.pairwise_cons.1 h
    have ih := del_len (e := e) h'.2
    by_cases ha : a = e
    · subst ha
      have hn : a ∉ l := fun hx => by have := h'.1 a hx; omega
      simp [del, hn] at ih ⊢
      simpa [del] using ih
    · have hne : ¬ e = a := fun x => ha x.symm
      by_cases hm : e ∈ l
      · simp [del, ha, hne, hm] at ih ⊢; omega
      · simp [del, ha, hne, hm] at ih ⊢; simpa using ih
theorem ins_there {e : Int} {l : List Int} (h : Ri l) (hm : e ∈ l) : ins e l = l := by
  refine ri_ext (ri_ins h) h (fun x => ?_)
  rw [mem_ins]
  constructor
  · intro h1
    rcases h1 with h1 | h1
    · subst h1; exact hm
    · exact h1
  · exact Or.inr
theorem del_not {e : Int} {l : List Int} (hm : e ∉ l) : del e l = l := by
  unfold del
  rw [List.filter_eq_self]
  intro x hx
  simp
  rintro rfl
  exact hm hx

/-- All numbers of a list, rising, each once. -/
def up (l : List Int) : List Int := l.foldr ins []
theorem mem_up {x : Int} : ∀ {l : List Int}, x ∈ up l ↔ x ∈ l
  | [] => by simp [up]
  | a :: l => by
    show x ∈ ins a (up l) ↔ _
    rw [mem_ins, mem_up (l := l)]; simp
theorem ri_up : ∀ (l : List Int), Ri (up l)
  | [] => by simp [up]
  | a :: l => ri_ins (ri_up l)

/-- A function with one value more. -/
def upd {α : Type} (f : Nat → α) (i : Nat) (v : α) : Nat → α := fun j => if j = i then v else f j
theorem upd_same {α : Type} (f : Nat → α) (i : Nat) (v : α) : upd f i v i = v := by simp [upd]
theorem upd_other {α : Type} (f : Nat → α) {i j : Nat} (v : α) (h : j ≠ i) : upd f i v j = f j := by simp [upd, h]

/-- A book: how many pins, the epoch that is now; owners' sets (1 to 64; 65: the dying, 66: the swept), inner ones, whether a sweep is on. -/
structure Bo where
  pins : Int
  now : Int
  sets : Nat → List Int
  inn : Nat → Int
  begun : Bool

def may (o : Int) : Bool := decide (1 ≤ o) && decide (o ≤ 64)
/-- Has some owner got it? -/
def some' (b : Bo) (e : Int) : Bool := (List.range 65).any (fun i => hasB (b.sets i) e)
/-- Whatever an owner has. -/
def lst (b : Bo) (i : Nat) : List Int := b.sets i ++ (if b.inn i = 0 then [] else [b.inn i])
/-- The epochs that are held. -/
def heldL (b : Bo) : List Int := up ((List.range 65).flatMap (lst b))
/-- Those that are dying. -/
def dyingL (b : Bo) : List Int := (b.sets 65 ++ b.sets 66).mergeSort (fun x y => decide (x ≤ y))
def loose (b : Bo) (e : Int) : Bo := if some' b e then b else { b with sets := upd b.sets 65 (ins e (b.sets 65)) }

def sealErr (b : Bo) (o : Int) : Int := if may o = false then 1 else if b.pins ≤ ((b.sets o.toNat).length : Int) then 34 else if 1099511627776 ≤ b.now then 2 else 0
def sealB (b : Bo) (o : Int) : Bo := if sealErr b o = 0 then { b with sets := upd b.sets o.toNat (ins b.now (b.sets o.toNat)), now := b.now + 1 } else b
def sealN (b : Bo) (o : Int) : Int := if sealErr b o = 0 then b.now else 0
def innErr (b : Bo) (o : Int) : Int := if may o = false then 1 else if b.inn o.toNat ≠ 0 then 43 else if 1099511627776 ≤ b.now then 2 else 0
def innB (b : Bo) (o : Int) : Bo := if innErr b o = 0 then { b with inn := upd b.inn o.toNat b.now, now := b.now + 1 } else b
def innN (b : Bo) (o : Int) : Int := if innErr b o = 0 then b.now else 0
def joinErr (b : Bo) (o e : Int) : Int := if may o = false then 1 else if some' b e = false then 33 else if hasB (b.sets o.toNat) e then 0 else if b.pins ≤ ((b.sets o.toNat).length : Int) then 34 else 0
def joinB (b : Bo) (o e : Int) : Bo := if joinErr b o e = 0 then { b with sets := upd b.sets o.toNat (ins e (b.sets o.toNat)) } else b
def relErr (b : Bo) (o e : Int) : Int := if may o = false then 1 else if hasB (b.sets o.toNat) e = false then 33 else 0
def relB (b : Bo) (o e : Int) : Bo := if relErr b o e = 0 then loose { b with sets := upd b.sets o.toNat (del e (b.sets o.toNat)) } e else b
def doneErr (b : Bo) (o : Int) : Int := if may o = false then 1 else if b.inn o.toNat = 0 then 44 else 0
def doneB (b : Bo) (o : Int) : Bo := if doneErr b o = 0 then { loose b (b.inn o.toNat) with inn := upd b.inn o.toNat 0 } else b
def dropN (b : Bo) (o : Int) : Int := if may o = false then 0 else ((lst b o.toNat).length : Int)
def cleared (b : Bo) (o : Nat) : Bo := { b with sets := upd b.sets o [], inn := upd b.inn o 0 }
def dropB (b : Bo) (o : Int) : Bo := if may o = false then b else (lst b o.toNat).foldl loose (cleared b o.toNat)
def beginErr (b : Bo) : Int := if b.begun then 43 else 0
def beginB (b : Bo) : Bo := if b.begun then b else { b with begun := true, sets := upd (upd b.sets 66 (b.sets 65)) 65 [] }
def endErr (b : Bo) : Int := if b.begun then 0 else 44
def endN (b : Bo) : Int := if b.begun then ((b.sets 66).length : Int) else 0
def endB (b : Bo) : Bo := if b.begun then { b with begun := false, sets := upd b.sets 66 [] } else b
def holdsB (b : Bo) (o e : Int) : Bool := may o && hasB (b.sets o.toNat) e

/-- A right book. -/
structure Wf (b : Bo) : Prop where
  pins : 1 ≤ b.pins ∧ b.pins ≤ 64
  now : 1 ≤ b.now ∧ b.now ≤ 1099511627776
  ri : ∀ i, Ri (b.sets i)
  lo : ∀ i, ∀ x ∈ b.sets i, 1 ≤ x ∧ x < b.now
  few : ∀ i, i < 65 → ((b.sets i).length : Int) ≤ b.pins
  inn : ∀ i, 0 ≤ b.inn i ∧ b.inn i < b.now
theorem may_true {o : Int} (h : may o = true) : 1 ≤ o ∧ o ≤ 64 := by simpa [may] using h
theorem may_false {o : Int} (h : may o = false) : o < 1 ∨ 64 < o := by
  simp only [may, Bool.and_eq_false_iff, decide_eq_false_iff_not] at h
  omega
theorem Wf.len {b : Bo} (h : Wf b) (i : Nat) : (b.sets i).length ≤ 1099511627776 := by
  have hr := h.ri i
  have hl := h.lo i
  have hn := h.now
  have key : ∀ (l : List Int) (n : Nat) (a : Int), Ri l → (∀ x ∈ l, a ≤ x ∧ x < a + n) → l.length ≤ n := by
    intro l
    induction l with
    | nil => intro n a _ _; exact Nat.zero_le _
    | cons x l ih =>
      intro n a hr hl
      have hr' := List.pairwise_cons.1 hr
      have hx := hl x (by simp)
      have hn0 : 0 < n := by omega
      have := ih (n - 1) (a + 1) hr'.2 (fun y hy => by
        have h1 := hr'.1 y hy
        have h2 := hl y (by simp [hy])
        omega)
      simp only [List.length_cons]
      omega
  have := key (b.sets i) b.now.toNat 0 hr (fun x hx => by have := hl x hx; omega)
  omega
theorem loose_pins (b : Bo) (e : Int) : (loose b e).pins = b.pins := by unfold loose; split <;> rfl
theorem loose_now (b : Bo) (e : Int) : (loose b e).now = b.now := by unfold loose; split <;> rfl
theorem loose_inn (b : Bo) (e : Int) : (loose b e).inn = b.inn := by unfold loose; split <;> rfl
theorem loose_begun (b : Bo) (e : Int) : (loose b e).begun = b.begun := by unfold loose; split <;> rfl
theorem loose_sets (b : Bo) (e : Int) {i : Nat} (hi : i ≠ 65) : (loose b e).sets i = b.sets i := by
  unfold loose; split
  · rfl
  · exact upd_other _ _ hi
theorem Wf.loose {b : Bo} (h : Wf b) {e : Int} (h1 : 1 ≤ e) (h2 : e < b.now) : Wf (loose b e) := by
  unfold E.loose
  split
  · exact h
  · refine ⟨h.pins, h.now, fun i => ?_, fun i x hx => ?_, fun i hi => ?_, h.inn⟩
    · dsimp only
      by_cases e1 : i = 65
      · subst e1; rw [upd_same]; exact ri_ins (h.ri _)
      · rw [upd_other _ _ e1]; exact h.ri i
    · dsimp only at hx ⊢
      by_cases e1 : i = 65
      · subst e1
        rw [upd_same] at hx
        rcases mem_ins.1 hx with rfl | hx
        · exact ⟨h1, h2⟩
        · exact h.lo _ x hx
      · rw [upd_other _ _ e1] at hx; exact h.lo i x hx
    · dsimp only
      rw [upd_other _ _ (by omega)]; exact h.few i hi
/-- With another set, of the same make. -/
theorem Wf.put {b : Bo} (h : Wf b) {o : Nat} {l : List Int} (hl : Ri l) (hx : ∀ x ∈ l, 1 ≤ x ∧ x < b.now) (hf : o < 65 → (l.length : Int) ≤ b.pins) : Wf { b with sets := upd b.sets o l } := by
  refine ⟨h.pins, h.now, fun i => ?_, fun i x hx' => ?_, fun i hi => ?_, h.inn⟩
  · dsimp only
    by_cases e1 : i = o
    · subst e1; rw [upd_same]; exact hl
    · rw [upd_other _ _ e1]; exact h.ri i
  · dsimp only at hx' ⊢
    by_cases e1 : i = o
    · subst e1
      rw [upd_same] at hx'
      exact hx x hx'
    · rw [upd_other _ _ e1] at hx'; exact h.lo i x hx'
  · dsimp only
    by_cases e1 : i = o
    · subst e1; rw [upd_same]; exact hf hi
    · rw [upd_other _ _ e1]; exact h.few i hi
theorem Wf.inner {b : Bo} (h : Wf b) {o : Nat} {v : Int} (hv : 0 ≤ v ∧ v < b.now) : Wf { b with inn := upd b.inn o v } := by
  refine ⟨h.pins, h.now, h.ri, h.lo, h.few, fun i => ?_⟩
  dsimp only
  by_cases e1 : i = o
  · subst e1; rw [upd_same]; exact hv
  · rw [upd_other _ _ e1]; exact h.inn i
theorem Wf.next {b : Bo} (h : Wf b) (hn : b.now < 1099511627776) : Wf { b with now := b.now + 1 } :=
  ⟨h.pins, ⟨by dsimp only; have := h.now; omega, by dsimp only; omega⟩, h.ri, fun i x hx => by have := h.lo i x hx; dsimp only; omega, h.few, fun i => by have := h.inn i; dsimp only; omega⟩
theorem Wf.flip {b : Bo} (h : Wf b) (x : Bool) : Wf { b with begun := x } := ⟨h.pins, h.now, h.ri, h.lo, h.few, h.inn⟩
theorem Wf.folds {e : List Int} : ∀ {b : Bo}, Wf b → (∀ x ∈ e, 1 ≤ x ∧ x < b.now) → Wf (e.foldl E.loose b) := by
  induction e with
  | nil => intro b h _; exact h
  | cons x e ih =>
    intro b h hx
    simp only [List.foldl_cons]
    refine ih (h.loose (hx x (by simp)).1 (hx x (by simp)).2) (fun y hy => ?_)
    rw [loose_now]
    exact hx y (by simp [hy])
theorem Wf.lst {b : Bo} (h : Wf b) (i : Nat) : ∀ x ∈ lst b i, 1 ≤ x ∧ x < b.now := by
  intro x hx
  unfold E.lst at hx
  rcases List.mem_append.1 hx with hx | hx
  · exact h.lo i x hx
  · split at hx
    · cases hx
    · simp at hx; subst hx; have := h.inn i; omega
theorem Wf.lst_len {b : Bo} (h : Wf b) {i : Nat} (hi : i < 65) : (E.lst b i).length ≤ 65 := by
  have := h.few i hi
  have := h.pins
  unfold E.lst
  split <;> simp <;> omega
end Go.Proofs.Ytimefcmemklhpaa.E
