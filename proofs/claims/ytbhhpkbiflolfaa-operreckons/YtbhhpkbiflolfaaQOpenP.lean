/- The open windows of a time: lists alone. -/
import Derived.Test.YtbhhpkbiflolfaaQWith
namespace Go.Proofs.Ytbhhpkbiflolfaa

/-- A cell without a key: its view's number, its start. -/
structure Ce where
  v : Nat
  s : Int
deriving DecidableEq
def ce0 : Ce := ⟨0, 0⟩
/-- The windows of a time in the first k views. -/
def winN (vs : List Vw) (t : Int) (k : Nat) : List Ce := (List.range k).flatMap fun i => (startsL (vs.getD i vw0).s (vs.getD i vw0).d t).map fun x => ⟨i, x⟩
theorem winN_zero (vs : List Vw) (t : Int) : winN vs t 0 = [] := rfl
theorem winN_succ (vs : List Vw) (t : Int) (k : Nat) : winN vs t (k + 1) = winN vs t k ++ (startsL (vs.getD k vw0).s (vs.getD k vw0).d t).map fun x => ⟨k, x⟩ := by
  unfold winN
  rw [List.range_succ, List.flatMap_append]
  simp
def winL (vs : List Vw) (t : Int) : List Ce := winN vs t vs.length
/-- Are all views right? -/
def okVs (vs : List Vw) : Bool := decide (∀ v ∈ vs, OkV v.s v.d v.l)
theorem okVs_at {vs : List Vw} (h : okVs vs = true) {i : Nat} (hi : i < vs.length) : OkV (vs.getD i vw0).s (vs.getD i vw0).d (vs.getD i vw0).l := by
  have h' : ∀ v ∈ vs, OkV v.s v.d v.l := of_decide_eq_true h
  have : vs.getD i vw0 = vs[i] := by simp [List.getD, hi]
  rw [this]
  exact h' _ (List.getElem_mem hi)
theorem okVs_all {vs : List Vw} (h : ∀ i, i < vs.length → OkV (vs.getD i vw0).s (vs.getD i vw0).d (vs.getD i vw0).l) : okVs vs = true := by
  refine decide_eq_true (fun v hv => ?_)
  obtain ⟨i, hi, rfl⟩ := List.mem_iff_getElem.1 hv
  have := h i hi
  have e : vs.getD i vw0 = vs[i] := by simp [List.getD, hi]
  rwa [e] at this
theorem okVs_not {vs : List Vw} {i : Nat} (hi : i < vs.length) (h : ¬ OkV (vs.getD i vw0).s (vs.getD i vw0).d (vs.getD i vw0).l) : okVs vs = false := by
  rcases hb : okVs vs with _ | _
  · rfl
  · exact absurd (okVs_at hb hi) h
/-- Is a window closed under a mark? -/
def shutC (vs : List Vw) (m : Int) (c : Ce) : Bool := decide (c.s + (vs.getD c.v vw0).s + (vs.getD c.v vw0).l ≤ m)
/-- Those that are open. -/
def opL (vs : List Vw) (m : Int) (L : List Ce) : List Ce := L.filter fun c => !shutC vs m c
/-- What check tells. -/
def chkN (vs : List Vw) (t : Int) : Int := if 4 < vs.length then 2 else if okVs vs then (if isT t then 0 else 22) else 23
/-- What Open tells. -/
def opnL (vs : List Vw) (m t : Int) : List Ce := if chkN vs t = 0 then opL vs m (winL vs t) else []
def opnB (vs : List Vw) (m t : Int) : Bool := if chkN vs t = 0 then decide ((opL vs m (winL vs t)).length = 0) && decide (0 < (winL vs t).length) else false
theorem chk_ok {vs : List Vw} {t : Int} (h : chkN vs t = 0) : vs.length ≤ 4 ∧ okVs vs = true ∧ Ti t := by
  unfold chkN at h
  by_cases h1 : 4 < vs.length
  · rw [if_pos h1] at h; omega
  · rw [if_neg h1] at h
    rcases h2 : okVs vs with _ | _
    · rw [h2] at h; simp at h
    · rw [h2, if_pos rfl] at h
      rcases h3 : isT t with _ | _
      · rw [h3] at h; simp at h
      · exact ⟨by omega, rfl, by unfold isT at h3; unfold Ti; exact of_decide_eq_true h3⟩
theorem chk_of {vs : List Vw} {t : Int} (h1 : vs.length ≤ 4) (h2 : okVs vs = true) (h3 : Ti t) : chkN vs t = 0 := by
  have : isT t = true := by unfold isT; exact decide_eq_true h3
  unfold chkN
  rw [if_neg (by omega), h2, if_pos rfl, this, if_pos rfl]

theorem winN_len {vs : List Vw} (h : okVs vs = true) (t : Int) : ∀ k, k ≤ vs.length → (winN vs t k).length ≤ k * 64
  | 0, _ => by simp [winN]
  | k + 1, hk => by
    rw [winN_succ, List.length_append, List.length_map, startsL_length]
    have h1 := winN_len h t k (by omega)
    have ho := okVs_at h (show k < vs.length by omega)
    have h2 := numP_le (t := t) ho.sd ho.d1
    omega
theorem winL_len {vs : List Vw} (h : okVs vs = true) (h4 : vs.length ≤ 4) (t : Int) : (winL vs t).length ≤ 256 := by
  have := winN_len h t vs.length (Nat.le_refl _)
  unfold winL
  omega
/-- Every window is one of a view that is there, near the time. -/
theorem winN_mem {vs : List Vw} {t : Int} {k : Nat} {c : Ce} (h : c ∈ winN vs t k) : c.v < k ∧ c.s ∈ startsL (vs.getD c.v vw0).s (vs.getD c.v vw0).d t := by
  simp only [winN, List.mem_flatMap, List.mem_range, List.mem_map] at h
  obtain ⟨i, hi, x, hx, rfl⟩ := h
  exact ⟨hi, hx⟩
theorem winL_near {vs : List Vw} (h : okVs vs = true) {t : Int} (ht : Ti t) {c : Ce} (hc : c ∈ winL vs t) : c.v < vs.length ∧ fits c.s ∧ fits (c.s + (vs.getD c.v vw0).s) ∧ fits (c.s + (vs.getD c.v vw0).s + (vs.getD c.v vw0).l) := by
  obtain ⟨h1, h2⟩ := winN_mem hc
  have ho := okVs_at h h1
  obtain ⟨k, _, h3, h4⟩ := (startsL_mem ho.s1 ho.d1).1 h2
  have := ho.s1
  have := ho.s2
  have := ho.l1
  have := ho.l2
  unfold Ti at ht
  unfold fits
  refine ⟨h1, ?_, ?_, ?_⟩ <;> omega
theorem opL_take {vs : List Vw} {m : Int} {L : List Ce} {i : Nat} (hi : i < L.length) : opL vs m (L.take (i + 1)) = opL vs m (L.take i) ++ (if shutC vs m (L.getD i ce0) then [] else [L.getD i ce0]) := by
  unfold opL
  rw [List.take_add_one, List.filter_append]
  simp only [List.getD, hi, List.getElem?_eq_getElem, Option.toList_some, Option.getD_some]
  rcases hb : shutC vs m L[i] with _ | _ <;> simp [hb]
theorem opL_len (vs : List Vw) (m : Int) (L : List Ce) (i : Nat) : (opL vs m (L.take i)).length ≤ i := Nat.le_trans (List.length_filter_le _ _) (by simp; omega)

/-- Cells as values. -/
def cv (L : List Ce) : List Value := L.flatMap fun c => [.int .i64 (c.v : Int), .string ⟨#[]⟩, .int .i64 c.s]
theorem cv_append (a b : List Ce) : cv (a ++ b) = cv a ++ cv b := by simp [cv]
theorem cv_cons (c : Ce) (L : List Ce) : cv (c :: L) = [.int .i64 (c.v : Int), .string ⟨#[]⟩, .int .i64 c.s] ++ cv L := by simp [cv]
theorem cv_length (L : List Ce) : (cv L).length = L.length * 3 := by
  induction L with
  | nil => rfl
  | cons x L ih => rw [cv_cons, List.length_append, ih, List.length_cons]; simp; omega
theorem cv_split {L : List Ce} {i : Nat} (hi : i < L.length) : cv L = cv (L.take i) ++ ([.int .i64 ((L.getD i ce0).v : Int), .string ⟨#[]⟩, .int .i64 (L.getD i ce0).s] ++ cv (L.drop (i + 1))) := by
  have e : L = L.take i ++ (L.getD i ce0) :: L.drop (i + 1) := by
    have h1 : L.getD i ce0 = L[i] := by simp [List.getD, hi]
    rw [h1, List.getElem_cons_drop, List.take_append_drop]
  conv => lhs; rw [e]
  rw [cv_append, cv_cons]
theorem cv_get {L : List Ce} {i : Nat} (hi : i < L.length) (rest : List Value) : (cv L ++ rest)[i * 3]? = some (.int .i64 ((L.getD i ce0).v : Int)) ∧ (cv L ++ rest)[i * 3 + 1]? = some (.string ⟨#[]⟩) ∧ (cv L ++ rest)[i * 3 + 2]? = some (.int .i64 (L.getD i ce0).s) := by
  have hl : (cv (L.take i)).length = i * 3 := by rw [cv_length, List.length_take]; omega
  rw [cv_split hi]
  refine ⟨?_, ?_, ?_⟩
  · rw [List.append_assoc, List.getElem?_append_right (by omega), hl, Nat.sub_self]; rfl
  · rw [List.append_assoc, List.getElem?_append_right (by omega), hl, show i * 3 + 1 - i * 3 = 1 by omega]; rfl
  · rw [List.append_assoc, List.getElem?_append_right (by omega), hl, show i * 3 + 2 - i * 3 = 2 by omega]; rfl
theorem cv_set {L : List Ce} {i : Nat} (hi : i < L.length) (c : Ce) (rest : List Value) : (((cv L ++ rest).set (i * 3) (.int .i64 (c.v : Int))).set (i * 3 + 1) (.string ⟨#[]⟩)).set (i * 3 + 2) (.int .i64 c.s) = cv (L.set i c) ++ rest := by
  have hl : (cv (L.take i)).length = i * 3 := by rw [cv_length, List.length_take]; omega
  have e : L.set i c = L.take i ++ c :: L.drop (i + 1) := by rw [List.set_eq_take_append_cons_drop, if_pos hi]
  rw [e, cv_append, cv_cons, cv_split hi, List.append_assoc, List.set_append_right _ _ (by omega), hl, Nat.sub_self, List.set_append_right _ _ (by omega), hl, show i * 3 + 1 - i * 3 = 1 by omega, List.set_append_right _ _ (by omega), hl, show i * 3 + 2 - i * 3 = 2 by omega]
  simp
end Go.Proofs.Ytbhhpkbiflolfaa
