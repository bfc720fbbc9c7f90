/- Aggregates by epoch and the versions that they make. Nothing of the program is used here. -/
import Derived.Test.YtcjadgnefojjgabDoorSPure2
namespace Go.Proofs.YtcjadgnefojjgabDoor.S
open G

/-- The versions of a row of aggregates, the first of epoch k. -/
def vG : Nat → List A4 → List Vn
  | _, [] => []
  | k, a :: r => if a.c = 0 then vG (k + 1) r else ⟨(k : Int), true, a⟩ :: vG (k + 1) r
theorem vG_app : ∀ (k : Nat) (F H : List A4), vG k (F ++ H) = vG k F ++ vG (k + F.length) H
  | k, [], H => by simp [vG]
  | k, a :: F, H => by
    have ih := vG_app (k + 1) F H
    simp only [List.cons_append, vG, List.length_cons]
    rw [show k + (F.length + 1) = k + 1 + F.length by omega]
    split
    · exact ih
    · rw [ih]; rfl
theorem vG_zero : ∀ (k n : Nat), vG k (List.replicate n a0) = []
  | _, 0 => rfl
  | k, n + 1 => by
    rw [List.replicate_succ]
    unfold vG
    rw [if_pos (show a0.c = 0 from rfl)]
    exact vG_zero (k + 1) n
theorem vG_ep : ∀ (k : Nat) (F : List A4), ∀ x ∈ vG k F, (k : Int) ≤ x.e ∧ x.e < (k : Int) + F.length ∧ x.t = true
  | k, [], x, hx => by simp [vG] at hx
  | k, a :: F, x, hx => by
    unfold vG at hx
    have ih := vG_ep (k + 1) F
    simp only [List.length_cons]
    split at hx
    · have := ih x hx
      exact ⟨by omega, by omega, this.2.2⟩
    · rcases List.mem_cons.1 hx with rfl | hx
      · exact ⟨Int.le_refl _, by dsimp only; omega, rfl⟩
      · have := ih x hx
        exact ⟨by omega, by omega, this.2.2⟩
theorem vG_len (k : Nat) (F : List A4) : (vG k F).length ≤ F.length := by
  induction F generalizing k with
  | nil => simp [vG]
  | cons a F ih =>
    unfold vG
    have := ih (k + 1)
    split <;> simp <;> omega
theorem up_app {A B : List Vn} {h : Int} (hA : ∀ x ∈ A, x.e ≤ h) (hB : ∀ x ∈ B, h < x.e) : up (A ++ B) h = A.length := by
  induction A with
  | nil =>
    cases B with
    | nil => rfl
    | cons y B =>
      have := hB y (by simp)
      show (if y.e ≤ h then _ else 0) = 0
      rw [if_neg (by omega)]
  | cons x A ih =>
    show (if x.e ≤ h then up (A ++ B) h + 1 else 0) = _
    rw [if_pos (hA x (by simp)), ih (fun y hy => hA y (List.mem_cons_of_mem _ hy))]
    rfl
/-- What is there at an epoch: the last one up to it. -/
theorem at_vG (F : List A4) (n : Nat) : atL (vG 1 F) (n : Int) = nw (vG 1 (F.take n)) := by
  have e : vG 1 F = vG 1 (F.take n) ++ vG (1 + (F.take n).length) (F.drop n) := by
    rw [← vG_app, List.take_append_drop]
  unfold atL
  rw [e, up_app, List.take_left]
  · intro x hx
    have := vG_ep 1 (F.take n) x hx
    rw [List.length_take] at this
    omega
  · intro x hx
    have h1 := vG_ep (1 + (F.take n).length) (F.drop n) x hx
    rw [List.length_drop] at h1
    rw [List.length_take] at h1
    omega
/-- The last aggregate up to a place. -/
def lst (F : List A4) (n : Nat) : A4 := (nw (vG 1 (F.take n))).v
theorem lst_zero (F : List A4) : lst F 0 = a0 := rfl
theorem lst_step (F : List A4) (n : Nat) (hn : n < F.length) : lst F (n + 1) = if (F.getD n a0).c = 0 then lst F n else F.getD n a0 := by
  unfold lst
  have e : F.take (n + 1) = F.take n ++ [F.getD n a0] := by
    rw [List.take_add_one]
    simp [List.getD, hn]
  rw [e, vG_app]
  by_cases h : (F.getD n a0).c = 0
  · rw [if_pos h]
    simp only [vG, if_pos h, List.append_nil]
  · rw [if_neg h]
    simp only [vG, if_neg h]
    rw [nw_snoc]
theorem lst_all (F : List A4) : lst F F.length = (nw (vG 1 F)).v := by unfold lst; rw [List.take_length]
end Go.Proofs.YtcjadgnefojjgabDoor.S
