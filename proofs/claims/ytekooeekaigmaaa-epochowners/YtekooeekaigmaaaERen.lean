/- Owners are names alone: a book with its owners changed about. Nothing of the program is used here. -/
import Derived.Test.YtekooeekaigmaaaELaw1
namespace Go.Proofs.Ytekooeekaigmaaa.E

/-- Owners changed about. -/
def pi (d o : Nat) : Nat := if 1 ≤ o ∧ o ≤ 64 then (o - 1 + d) % 64 + 1 else o
theorem pi_lt {d o : Nat} (h : o < 65) : pi d o < 65 := by unfold pi; split <;> omega
theorem pi_ge {d o : Nat} (h : 65 ≤ o) : pi d o = o := by unfold pi; rw [if_neg (by omega)]
theorem pi_inj {d o p : Nat} (_hd : d < 64) (h : pi d o = pi d p) : o = p := by
  unfold pi at h
  split at h <;> split at h <;> omega
theorem pi_surj {d j : Nat} (hd : d < 64) (hj : j < 65) : ∃ i, i < 65 ∧ pi d i = j := by
  by_cases h0 : j = 0
  · subst h0
    exact ⟨0, by omega, by unfold pi; rw [if_neg (by omega)]⟩
  · refine ⟨(j - 1 + (64 - d)) % 64 + 1, by omega, ?_⟩
    unfold pi
    rw [if_pos (by omega)]
    omega
def piI (d : Nat) (o : Int) : Int := if 1 ≤ o ∧ o ≤ 64 then (o - 1 + (d : Int)) % 64 + 1 else o
theorem may_pi (d : Nat) (o : Int) : may (piI d o) = may o := by
  unfold piI
  split
  · rename_i h
    have h1 : may o = true := by simp [may, h.1, h.2]
    have h2 : 1 ≤ (o - 1 + (d : Int)) % 64 + 1 ∧ (o - 1 + (d : Int)) % 64 + 1 ≤ 64 := by omega
    rw [h1]
    simp [may, h2.1, h2.2]
  · rfl
theorem pi_nat {d : Nat} {o : Int} (h : may o = true) : (piI d o).toNat = pi d o.toNat := by
  have := may_true h
  unfold piI pi
  rw [if_pos this, if_pos (by omega)]
  omega

structure Rn (d : Nat) (a b : Bo) : Prop where
  pins : b.pins = a.pins
  now : b.now = a.now
  begun : b.begun = a.begun
  sets : ∀ o, b.sets (pi d o) = a.sets o
  inn : ∀ o, b.inn (pi d o) = a.inn o
theorem Rn.s65 {d : Nat} {a b : Bo} (h : Rn d a b) : b.sets 65 = a.sets 65 := by have := h.sets 65; rwa [pi_ge (by omega)] at this
theorem Rn.s66 {d : Nat} {a b : Bo} (h : Rn d a b) : b.sets 66 = a.sets 66 := by have := h.sets 66; rwa [pi_ge (by omega)] at this
theorem Rn.new (d : Nat) (pins : Int) : Rn d (newB pins) (newB pins) := ⟨rfl, rfl, rfl, fun _ => rfl, fun _ => rfl⟩
theorem Rn.lst {d : Nat} {a b : Bo} (h : Rn d a b) (o : Nat) : lst b (pi d o) = lst a o := by unfold E.lst; rw [h.sets, h.inn]
theorem mem_held {b : Bo} {x : Int} : x ∈ heldL b ↔ ∃ i, i < 65 ∧ x ∈ lst b i := by
  unfold heldL
  rw [mem_up, List.mem_flatMap]
  constructor
  · rintro ⟨i, hi, hx⟩
    exact ⟨i, by simpa using hi, hx⟩
  · rintro ⟨i, hi, hx⟩
    exact ⟨i, by simpa using hi, hx⟩
theorem Rn.held {d : Nat} {a b : Bo} (h : Rn d a b) (hd : d < 64) : heldL b = heldL a := by
  refine ri_ext (ri_up _) (ri_up _) (fun x => ?_)
  rw [mem_held, mem_held]
  constructor
  · rintro ⟨j, hj, hx⟩
    obtain ⟨i, hi, rfl⟩ := pi_surj hd hj
    rw [h.lst] at hx
    exact ⟨i, hi, hx⟩
  · rintro ⟨i, hi, hx⟩
    exact ⟨pi d i, pi_lt hi, by rw [h.lst]; exact hx⟩
theorem Rn.dying {d : Nat} {a b : Bo} (h : Rn d a b) : dyingL b = dyingL a := by unfold dyingL; rw [h.s65, h.s66]
theorem some_true {b : Bo} {e : Int} : some' b e = true ↔ ∃ i, i < 65 ∧ e ∈ b.sets i := by
  unfold some'
  rw [List.any_eq_true]
  constructor
  · rintro ⟨i, hi, h⟩
    exact ⟨i, by simpa using hi, hasB_true.1 h⟩
  · rintro ⟨i, hi, h⟩
    exact ⟨i, by simpa using hi, hasB_true.2 h⟩
theorem bool_ext {x y : Bool} (h : x = true ↔ y = true) : x = y := by cases x <;> cases y <;> simp at h <;> rfl
theorem Rn.some {d : Nat} {a b : Bo} (h : Rn d a b) (hd : d < 64) (e : Int) : some' b e = some' a e := by
  refine bool_ext ?_
  rw [some_true, some_true]
  constructor
  · rintro ⟨j, hj, hx⟩
    obtain ⟨i, hi, rfl⟩ := pi_surj hd hj
    rw [h.sets] at hx
    exact ⟨i, hi, hx⟩
  · rintro ⟨i, hi, hx⟩
    exact ⟨pi d i, pi_lt hi, by rw [h.sets]; exact hx⟩
theorem upd_pi {α : Type} {d : Nat} (hd : d < 64) {f g : Nat → α} (h : ∀ o, g (pi d o) = f o) (i : Nat) (v : α) : ∀ o, upd g (pi d i) v (pi d o) = upd f i v o := by
  intro o
  by_cases e : o = i
  · subst e; rw [upd_same, upd_same]
  · rw [upd_other _ _ e, upd_other _ _ (fun e' => e (pi_inj hd e')), h]
theorem Rn.put {d : Nat} {a b : Bo} (h : Rn d a b) (hd : d < 64) (i : Nat) (l : List Int) : Rn d { a with sets := upd a.sets i l } { b with sets := upd b.sets (pi d i) l } :=
  ⟨h.pins, h.now, h.begun, upd_pi hd h.sets i l, h.inn⟩
theorem Rn.inner {d : Nat} {a b : Bo} (h : Rn d a b) (hd : d < 64) (i : Nat) (v : Int) : Rn d { a with inn := upd a.inn i v } { b with inn := upd b.inn (pi d i) v } :=
  ⟨h.pins, h.now, h.begun, h.sets, upd_pi hd h.inn i v⟩
theorem Rn.loose {d : Nat} {a b : Bo} (h : Rn d a b) (hd : d < 64) (e : Int) : Rn d (loose a e) (loose b e) := by
  unfold E.loose
  rw [h.some hd e]
  split
  · exact h
  · have h1 := h.put hd 65 (ins e (a.sets 65))
    rw [pi_ge (by omega)] at h1
    rw [h.s65]
    exact h1
theorem Rn.folds {d : Nat} (hd : d < 64) : ∀ (l : List Int) {a b : Bo}, Rn d a b → Rn d (l.foldl E.loose a) (l.foldl E.loose b)
  | [], _, _, h => h
  | x :: l, _, _, h => by
    simp only [List.foldl_cons]
    exact Rn.folds hd l (h.loose hd x)
/-- A step with its owner changed about. -/
def piS (d : Nat) (s : Stp) : Stp := { s with o := piI d s.o }
theorem ofE_pi (d : Nat) (s : Stp) (n : Int) : ofE (piS d s) n = ofE s n := rfl
theorem Rn.step {d : Nat} {a b : Bo} (h : Rn d a b) (hd : d < 64) (s : Stp) : Rn d (doB a s) (doB b (piS d s)) ∧ doR b (piS d s) = doR a s := by
  unfold doB doR
  rw [ofE_pi]
  show Rn d _ (if s.k = 1 then sealB b (piI d s.o) else if s.k = 2 then innB b (piI d s.o) else if s.k = 3 then joinB b (piI d s.o) (ofE s b.now) else if s.k = 4 then relB b (piI d s.o) (ofE s b.now)
    else if s.k = 5 then doneB b (piI d s.o) else if s.k = 6 then dropB b (piI d s.o) else if s.k = 7 then beginB b else if s.k = 8 then endB b else b) ∧
    (if s.k = 1 then decide (sealErr b (piI d s.o) = 0) else if s.k = 2 then decide (innErr b (piI d s.o) = 0) else if s.k = 3 then decide (joinErr b (piI d s.o) (ofE s b.now) = 0) else if s.k = 4 then decide (relErr b (piI d s.o) (ofE s b.now) = 0)
    else if s.k = 5 then decide (doneErr b (piI d s.o) = 0) else if s.k = 6 then decide (0 < dropN b (piI d s.o)) else if s.k = 7 then decide (beginErr b = 0) else if s.k = 8 then decide (endErr b = 0) else false) = _
  rw [h.now]
  generalize ofE s a.now = e
  generalize s.o = o
  have hse : sealErr b (piI d o) = sealErr a o := by
    unfold sealErr
    rw [may_pi, h.pins, h.now]
    cases hm : may o with
    | false => simp
    | true => rw [pi_nat hm, h.sets]
  have hie : innErr b (piI d o) = innErr a o := by
    unfold innErr
    rw [may_pi, h.now]
    cases hm : may o with
    | false => simp
    | true => rw [pi_nat hm, h.inn]
  have hje : joinErr b (piI d o) e = joinErr a o e := by
    unfold joinErr
    rw [may_pi, h.pins, h.some hd]
    cases hm : may o with
    | false => simp
    | true => rw [pi_nat hm, h.sets]
  have hre : relErr b (piI d o) e = relErr a o e := by
    unfold relErr
    rw [may_pi]
    cases hm : may o with
    | false => simp
    | true => rw [pi_nat hm, h.sets]
  have hde : doneErr b (piI d o) = doneErr a o := by
    unfold doneErr
    rw [may_pi]
    cases hm : may o with
    | false => simp
    | true => rw [pi_nat hm, h.inn]
  have hdn : dropN b (piI d o) = dropN a o := by
    unfold dropN
    rw [may_pi]
    cases hm : may o with
    | false => simp
    | true => rw [pi_nat hm, h.lst]
  rw [hse, hie, hje, hre, hde, hdn]
  have hbe : beginErr b = beginErr a := by unfold beginErr; rw [h.begun]
  have hee : endErr b = endErr a := by unfold endErr; rw [h.begun]
  rw [hbe, hee]
  refine ⟨?_, rfl⟩
  split
  · unfold sealB
    rw [hse]
    split
    · rename_i h0
      cases hm : may o with
      | false => simp [sealErr, hm] at h0
      | true =>
        rw [pi_nat hm, h.now, h.sets]
        have h1 := h.put hd o.toNat (ins a.now (a.sets o.toNat))
        exact ⟨h1.pins, rfl, h1.begun, h1.sets, h1.inn⟩
    · exact h
  split
  · unfold innB
    rw [hie]
    split
    · rename_i h0
      cases hm : may o with
      | false => simp [innErr, hm] at h0
      | true =>
        rw [pi_nat hm, h.now]
        have h1 := h.inner hd o.toNat a.now
        exact ⟨h1.pins, rfl, h1.begun, h1.sets, h1.inn⟩
    · exact h
  split
  · unfold joinB
    rw [hje]
    split
    · rename_i h0
      cases hm : may o with
      | false => simp [joinErr, hm] at h0
      | true =>
        rw [pi_nat hm, h.sets]
        exact h.put hd _ _
    · exact h
  split
  · unfold relB
    rw [hre]
    split
    · rename_i h0
      cases hm : may o with
      | false => simp [relErr, hm] at h0
      | true =>
        rw [pi_nat hm, h.sets]
        exact (h.put hd _ _).loose hd e
    · exact h
  split
  · unfold doneB
    rw [hde]
    split
    · rename_i h0
      cases hm : may o with
      | false => simp [doneErr, hm] at h0
      | true =>
        rw [pi_nat hm, h.inn]
        have h1 := (h.loose hd (a.inn o.toNat)).inner hd o.toNat 0
        rw [loose_inn, loose_inn] at h1
        exact h1
    · exact h
  split
  · unfold dropB
    rw [may_pi]
    cases hm : may o with
    | false => simpa using h
    | true =>
      rw [pi_nat hm, h.lst]
      have h1 := (h.put hd o.toNat []).inner hd o.toNat 0
      exact Rn.folds hd _ h1
  split
  · unfold beginB
    rw [h.begun]
    split
    · exact h
    · have h1 := (h.put hd 66 (a.sets 65)).put hd 65 []
      rw [pi_ge (by omega), pi_ge (by omega)] at h1
      rw [h.s65]
      exact ⟨h1.pins, h1.now, rfl, h1.sets, h1.inn⟩
  split
  · unfold endB
    rw [h.begun]
    split
    · have h1 := h.put hd 66 []
      rw [pi_ge (by omega)] at h1
      exact ⟨h1.pins, h1.now, rfl, h1.sets, h1.inn⟩
    · exact h
  · exact h
end Go.Proofs.Ytekooeekaigmaaa.E
