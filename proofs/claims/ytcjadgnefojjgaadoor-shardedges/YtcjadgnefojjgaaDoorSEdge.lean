/- ShardEdges: the law's within, the cell, what is asked for; the walk's first part. -/
import Derived.Test.YtcjadgnefojjgaaDoorSHead
import Derived.Deep.OwnRows
namespace Go.Proofs.YtcjadgnefojjgaaDoor.S
open Go.RowKit G

theorem within_any (a n : Int) (hn : 0 < n) (hb : n ≤ 1000000) (w : World) : Calls Tryd.prog 7 #[.int .i64 a, .int .i64 n] w fun e w' => e = .returned (.int .i64 (a % n)) ∧ w' = w := by
  have h1 : -n < a.tmod n := Int.lt_tmod_of_pos a hn
  have h2 : a.tmod n < n := Int.tmod_lt_of_pos a hn
  have h3 : ¬ n = 0 := by omega
  have h5 : (n == 0) = false := by simpa using h3
  have h6 : (n == -1) = false := by simp; omega
  have h7 : ¬ n = -1 := by omega
  have h4 : a % n = if a.tmod n < 0 then a.tmod n + n else a.tmod n := by
    have hq := Int.tmod_add_mul_tdiv a n
    generalize a.tmod n = m at *
    generalize a.tdiv n = q at *
    rw [← hq, Int.add_mul_emod_self_left]
    by_cases hm : m < 0
    · rw [if_pos hm, ← Int.add_emod_right]
      exact Int.emod_eq_of_lt (by omega) (by omega)
    · rw [if_neg hm]
      exact Int.emod_eq_of_lt (by omega) h2
  rw [h4]
  clear h4
  generalize hm : a.tmod n = m at *
  by_cases hlt : m < 0
  · rw [if_pos hlt]
    go_enter Tryd.func7, Tryd.ntmps7
    go_wp2_with fail
    go_ret
    exact ⟨rfl, rfl⟩
  · rw [if_neg hlt]
    go_enter Tryd.func7, Tryd.ntmps7
    go_wp2_with fail
    go_ret
    exact ⟨rfl, rfl⟩

/-- A key of noughts. -/
def ze (n : Nat) : ByteArray := str8 (List.replicate n 0)
theorem ze_size (n : Nat) : (ze n).size = n := by unfold ze; rw [str8_size]; simp
/-- What is to be answered. -/
def wantE (c : Cl) (e : Int) : Int := if mayE c = 0 then (if 1099511627776 < e then 1 else 0) else mayE c
theorem want_put {V : Vw} {c : Cl} {e : Int} (h : wantE c e ≠ 0) (slots : Nat) (a : A4) : putErr V slots e c a = wantE c e ∧ putS V slots e c a = V := by
  have h2 : putErr V slots e c a = wantE c e := by
    unfold wantE at h ⊢
    unfold putErr
    by_cases hm : mayE c = 0
    · rw [if_neg (by simpa using hm), if_pos hm]
      rw [if_pos hm] at h
      by_cases he : 1099511627776 < e
      · rw [if_pos he, if_pos (Or.inr he)]
      · rw [if_neg he] at h
        exact absurd rfl h
    · rw [if_pos hm, if_neg hm]
  refine ⟨h2, ?_⟩
  unfold putS
  rw [h2, if_neg h]
theorem want_kill {V : Vw} {c : Cl} {e : Int} (h : wantE c e ≠ 0) : killErr V e c = wantE c e ∧ killS V e c = V := by
  have h2 : killErr V e c = wantE c e := by
    unfold wantE at h ⊢
    unfold killErr
    by_cases hm : mayE c = 0
    · rw [if_neg (by simpa using hm), if_pos hm]
      rw [if_pos hm] at h
      by_cases he : 1099511627776 < e
      · rw [if_pos he, if_pos (Or.inr he)]
      · rw [if_neg he] at h
        exact absurd rfl h
    · rw [if_pos hm, if_neg hm]
  refine ⟨h2, ?_⟩
  unfold killS
  rw [h2, if_neg h]
theorem want_ok {c : Cl} {e : Int} (h : wantE c e = 0) : mayE c = 0 ∧ e ≤ 1099511627776 := by
  unfold wantE at h
  by_cases hm : mayE c = 0
  · rw [if_pos hm] at h
    refine ⟨hm, ?_⟩
    by_cases he : 1099511627776 < e
    · rw [if_pos he] at h; cases h
    · omega
  · rw [if_neg hm] at h
    exact absurd h hm
/-- The steps where nothing is wrong. -/
theorem edge_ok {c : Cl} {e : Int} (h : wantE c e = 0) (h2 : 2 ≤ e) :
    (putErr [] 100 e c (oneA 7) = 0 ∧ putS [] 100 e c (oneA 7) = [(c, [⟨e, true, oneA 7⟩])]) ∧
    (∀ a, (a.c = 0 ∨ rightA a = false) → putErr [(c, [⟨e, true, oneA 7⟩])] 100 e c a = 1 ∧ putS [(c, [⟨e, true, oneA 7⟩])] 100 e c a = [(c, [⟨e, true, oneA 7⟩])]) ∧
    (killErr [(c, [⟨e, true, oneA 7⟩])] e c = 0 ∧ killS [(c, [⟨e, true, oneA 7⟩])] e c = [(c, [⟨e, false, a0⟩])]) ∧ nU [(c, [⟨e, false, a0⟩])] = 1 ∧
    (killErr [(c, [⟨e, false, a0⟩])] e c = 44 ∧ killS [(c, [⟨e, false, a0⟩])] e c = [(c, [⟨e, false, a0⟩])]) ∧
    (killErr [(c, [⟨e, false, a0⟩])] (e - 1) c = 32 ∧ killS [(c, [⟨e, false, a0⟩])] (e - 1) c = [(c, [⟨e, false, a0⟩])]) := by
  obtain ⟨hm, he⟩ := want_ok h
  have p1 : putErr [] 100 e c (oneA 7) = 0 := by
    unfold putErr
    rw [if_neg (by simpa using hm), if_neg (by omega), if_neg (by rw [oneA_right]; simp [oneA]), if_neg (by simp [getV, nw, z0]; omega), if_neg (by have := needN_le (getV [] c) e; simp [nU, nV, nT]; omega)]
  have p2 : ∀ a, (a.c = 0 ∨ rightA a = false) → putErr [(c, [⟨e, true, oneA 7⟩])] 100 e c a = 1 := by
    intro a ha
    unfold putErr
    rw [if_neg (by simpa using hm), if_neg (by omega), if_pos ha]
  have w1 : wrong [(⟨e, true, oneA 7⟩ : Vn)] e = 0 := by unfold wrong; rw [if_neg (by omega), if_neg (by simp [nw])]
  have w2 : wrong [(⟨e, false, a0⟩ : Vn)] e = 0 := by unfold wrong; rw [if_neg (by omega), if_neg (by simp [nw])]
  have w3 : wrong [(⟨e, false, a0⟩ : Vn)] (e - 1) = 32 := by unfold wrong; rw [if_neg (by omega), if_pos (by simp [nw]; omega)]
  have p3 : killErr [(c, [⟨e, true, oneA 7⟩])] e c = 0 := by
    unfold killErr
    rw [if_neg (by simpa using hm), if_neg (by omega), get1]
    unfold gone
    rw [if_pos w1]
    rfl
  have p4 : killErr [(c, [⟨e, false, a0⟩])] e c = 44 := by
    unfold killErr
    rw [if_neg (by simpa using hm), if_neg (by omega), get1]
    unfold gone
    rw [if_pos w2]
    rfl
  have p5 : killErr [(c, [⟨e, false, a0⟩])] (e - 1) c = 32 := by
    unfold killErr
    rw [if_neg (by simpa using hm), if_neg (by omega), get1]
    unfold gone
    rw [if_neg (by rw [w3]; decide)]
    exact w3
  refine ⟨⟨p1, ?_⟩, fun a ha => ⟨p2 a ha, ?_⟩, ⟨p3, ?_⟩, by rw [nU1]; rfl, ⟨p4, ?_⟩, ⟨p5, ?_⟩⟩
  · unfold putS
    rw [p1, if_pos rfl, set0]
    show [(c, layL [] ⟨e, true, oneA 7⟩)] = _
    unfold layL
    rw [if_neg (by simp [nw, z0]; omega)]
    rfl
  · unfold putS
    rw [p2 a ha]
    rfl
  · unfold killS
    rw [p3, if_pos rfl, get1, set1]
    unfold layL
    rw [if_pos (by simp [nw])]
    rfl
  · unfold killS
    rw [p4]
    rfl
  · unfold killS
    rw [p5]
    rfl
end Go.Proofs.YtcjadgnefojjgaaDoor.S
