/- Tables that stand apart; steps and scripts; do: walks. -/
import Derived.Test.YtobigmcklecbnaaTAlike
namespace Go.Proofs.Ytobigmcklecbnaa
open Go.RowKit

/-- A step. -/
structure Stp where
  k : Int
  n : Int
  key : ByteArray
def st0 : Stp := ⟨0, 0, none8⟩
def zI : Value := .int .i64 0
def stepT (T : Tb) (s : Stp) : Tb :=
  if s.k = 1 then putT zI T s.key (.int .i64 s.n) else if s.k = 3 then dropT zI T s.key else if s.k = 4 then moveT zI T s.n else T
def runT (T : Tb) (ss : List Stp) : Tb := ss.foldl stepT T
theorem runT_snoc (T : Tb) (ss : List Stp) (i : Nat) (hi : i < ss.length) : runT T (ss.take (i + 1)) = stepT (runT T (ss.take i)) (ss.getD i st0) := by
  unfold runT
  rw [List.take_add_one, List.foldl_append]
  simp [List.getD, hi]
/-- A right table of so many puts at most. -/
structure Sz (T : Tb) (c : Nat) : Prop where
  inv : Inv T
  keys : T.keys ≤ c
  len : T.row.length ≤ 8 + 8 * c
theorem Sz.new : Sz (newT zI) 0 := ⟨new_inv _, Nat.le_refl _, by simp [newT]⟩
theorem Sz.put {T : Tb} {c : Nat} (h : Sz T c) (k : ByteArray) (v : Value) : Sz (putT zI T k v) (c + 1) := by
  have h1 := h.keys
  have h2 := h.len
  rcases Classical.em (∃ u, Has T k u) with ⟨u, hu⟩ | hu
  · obtain ⟨a1, _, a3, a4, _⟩ := put_there (z := zI) h.inv v hu
    exact ⟨a1, by omega, by omega⟩
  · obtain ⟨a1, _, a3, a4, _⟩ := put_new (z := zI) h.inv v (fun u hh => hu ⟨u, hh⟩)
    refine ⟨a1, by omega, ?_⟩
    rw [a4]
    split <;> omega
theorem Sz.step {T : Tb} {c : Nat} (h : Sz T c) (s : Stp) : Sz (stepT T s) (c + 1) := by
  have h1 := h.keys
  have h2 := h.len
  unfold stepT
  split
  · exact h.put _ _
  · split
    · obtain ⟨a1, _, a3, _, a5⟩ := drop_inv (z := zI) h.inv s.key
      rcases a5 with ⟨_, a6, _⟩ | ⟨u, _, a6, _⟩
      · exact ⟨a1, by omega, by omega⟩
      · exact ⟨a1, by omega, by omega⟩
    · split
      · obtain ⟨a1, _, _, a4, a5⟩ := move_inv zI h.inv.i0 s.n
        exact ⟨a1, by omega, by omega⟩
      · exact ⟨h.inv, by omega, by omega⟩
theorem Sz.run {T : Tb} {c : Nat} (h : Sz T c) : ∀ ss : List Stp, Sz (runT T ss) (c + ss.length) := by
  intro ss
  induction ss generalizing T c with
  | nil => exact h
  | cons s ss ih =>
    have := ih (h.step s)
    rw [show c + (s :: ss).length = c + 1 + ss.length by simp; omega]
    exact this

def upd {α : Type} (f : Nat → α) (i : Nat) (x : α) : Nat → α := fun j => if j = i then x else f j
/-- n tables that stand apart, at new blocks. -/
structure Fam (w0 W : World) (n : Nat) (B : Nat → Nat) (T : Nat → Tb) : Prop where
  fr : Fr w0 W (fun _ => False)
  ex : ∃ (gr : Nat → Nat) (ge : Nat → Option Nat), (∀ i, i < n → TbAt W (B i) (gr i) (ge i) (T i)) ∧ (∀ i b, i < n → bl (B i) (gr i) (ge i) b → w0.heap.size ≤ b) ∧ (∀ i j b, i < n → j < n → i ≠ j → bl (B i) (gr i) (ge i) b → ¬ bl (B j) (gr j) (ge j) b)
theorem Fam.lt {w0 W : World} {n : Nat} {B : Nat → Nat} {T : Nat → Tb} (h : Fam w0 W n B T) (i : Nat) (hi : i < n) : B i < W.heap.size := by
  obtain ⟨gr, ge, h1, _⟩ := h.ex
  exact (h1 i hi).lt
theorem Fam.step {w0 W W' : World} {n : Nat} {B : Nat → Nat} {T : Nat → Tb} (h : Fam w0 W n B T) (hf : Fr W W' (fun _ => False)) : Fam w0 W' n B T := by
  obtain ⟨gr, ge, h1, h2, h3⟩ := h.ex
  exact ⟨h.fr.trans hf, gr, ge, fun i hi => (h1 i hi).step hf, h2, h3⟩
/-- One of them turns. -/
theorem Fam.turn {w0 W W' : World} {n : Nat} {B : Nat → Nat} {T : Nat → Tb} {gr : Nat → Nat} {ge : Nat → Option Nat} (hfr : Fr w0 W (fun _ => False)) (h1 : ∀ i, i < n → TbAt W (B i) (gr i) (ge i) (T i)) (h2 : ∀ i b, i < n → bl (B i) (gr i) (ge i) b → w0.heap.size ≤ b) (h3 : ∀ i j b, i < n → j < n → i ≠ j → bl (B i) (gr i) (ge i) b → ¬ bl (B j) (gr j) (ge j) b)
    (i : Nat) (hi : i < n) (T' : Tb) (gr' : Nat) (ge' : Option Nat) (hT : TbAt W' (B i) gr' ge' T') (hN : Nb W (B i) (gr i) (ge i) gr' ge') (hf : Fr W W' (bl (B i) (gr i) (ge i))) : Fam w0 W' n B (upd T i T') := by
  have hs := hfr.size
  refine ⟨hfr.trans2 hf (fun b hb e => by have := h2 i b hi e; omega), upd gr i gr', upd ge i ge', fun j hj => ?_, fun j b hj hb => ?_, fun j k b hj hk hne hb hb2 => ?_⟩
  · unfold upd
    by_cases e : j = i
    · subst e; simp only [if_true]; exact hT
    · simp only [if_neg e]
      exact (h1 j hj).fr hf (fun b hb hb2 => h3 j i b hj hi e hb hb2)
  · unfold upd at hb
    by_cases e : j = i
    · subst e
      simp only [if_true] at hb
      rcases hN b hb with h | h
      · exact h2 j b hj h
      · omega
    · simp only [if_neg e] at hb
      exact h2 j b hj hb
  · unfold upd at hb hb2
    have lt : ∀ j, j < n → bl (B j) (gr j) (ge j) b → b < W.heap.size := by
      intro j hj hb
      obtain ⟨rv, ev, hc, hr, he⟩ := (h1 j hj).ex
      rcases hb with hb | hb | hb
      · rw [hb]; exact lt_of_block hc
      · rw [hb]; exact hr.lt
      · rw [hb] at he; exact he.lt
    by_cases e : j = i
    · subst e
      simp only [if_true] at hb
      simp only [if_neg (fun e2 : k = j => hne e2.symm)] at hb2
      rcases hN b hb with h | h
      · exact h3 j k b hj hk hne h hb2
      · have := lt k hk hb2; omega
    · simp only [if_neg e] at hb
      by_cases e2 : k = i
      · subst e2
        simp only [if_true] at hb2
        rcases hN b hb2 with h | h
        · exact h3 j k b hj hk hne hb h
        · have := lt j hj hb; omega
      · simp only [if_neg e2] at hb2
        exact h3 j k b hj hk hne hb hb2
theorem nb_left {w : World} {B gr : Nat} {ge ge' : Option Nat} (h : ge' = ge ∨ ge' = none) : Nb w B gr ge gr ge' := by
  intro b hb
  left
  rcases hb with hb | hb | hb
  · exact Or.inl hb
  · exact Or.inr (Or.inl hb)
  · rcases h with h | h
    · rw [h] at hb; exact Or.inr (Or.inr hb)
    · rw [h] at hb; cases hb

set_option maxHeartbeats 1000000 in
set_option maxRecDepth 100000 in
theorem do_any {w0 W : World} {n : Nat} {B : Nat → Nat} {T : Nat → Tb} (h : Fam w0 W n B T) (i : Nat) (hi : i < n) (s : Stp) (c : Nat) (hc : c ≤ 100000) (hz : Sz (T i) c) (hk : s.key.size ≤ 9223372036854775807) (b : Nat) (hb : B i = b) :
    Calls Try.prog 39 #[.pointer (some ⟨b, 0, none⟩), .agg #[.int .i64 s.k, .int .i64 s.n, .string s.key]] W fun e w' => e = .returned (.tuple #[]) ∧ Fam w0 w' n B (upd T i (stepT (T i) s)) := by
  subst hb
  obtain ⟨sk, sn, key⟩ := s
  dsimp only at hk ⊢
  have hlt := h.lt i hi
  have hlen := hz.len
  have HA := hid (h.step (alloc_fr W (.cells #[.int .i64 sk, .int .i64 sn, .string key] 36) (fun _ => False)))
  obtain ⟨gr, ge, h1, h2, h3⟩ := HA.out.ex
  have HInv := hid hz.inv
  unfold stepT
  dsimp only
  by_cases k1 : sk = 1
  · subst k1
    rw [if_pos rfl]
    have HP := hid (put_any key sn _ (h1 i hi) hz.inv hk (by omega))
    go_enter Try.func39, Try.ntmps39
    go_wp2_with fail
    refine HP.out.mono ?_
    rintro e w2 ⟨rfl, ⟨gr', ge', hT, hN⟩, hf⟩
    have HR := hid (Fam.turn HA.out.fr h1 h2 h3 i hi _ gr' ge' hT hN hf)
    clear hT hN hf
    go_wp2_with fail
    go_end0
    exact ⟨rfl, HR.out⟩
  · rw [if_neg k1]
    by_cases k3 : sk = 3
    · subst k3
      rw [if_pos rfl]
      have HP := hid (drop_any key _ (h1 i hi) hz.inv hk)
      go_enter Try.func39, Try.ntmps39
      go_wp2_with fail
      refine HP.out.mono ?_
      rintro e w2 ⟨rfl, ⟨ge', hT, hN⟩, hf⟩
      have HR := hid (Fam.turn HA.out.fr h1 h2 h3 i hi _ (gr i) ge' hT (nb_left hN) hf)
      clear hT hN hf
      go_wp2_with fail
      go_end0
      exact ⟨rfl, HR.out⟩
    · rw [if_neg k3]
      by_cases k4 : sk = 4
      · subst k4
        rw [if_pos rfl]
        have HP := hid (move_any sn _ (h1 i hi))
        go_enter Try.func39, Try.ntmps39
        go_wp2_with fail
        refine HP.out.mono ?_
        rintro e w2 ⟨rfl, ⟨ge', hT, hN⟩, hf⟩
        have HR := hid (Fam.turn HA.out.fr h1 h2 h3 i hi _ (gr i) ge' hT (nb_left hN) hf)
        clear hT hN hf
        go_wp2_with fail
        go_end0
        exact ⟨rfl, HR.out⟩
      · rw [if_neg k4]
        have t1 : (sk == 1) = false := by simpa using k1
        have t3 : (sk == 3) = false := by simpa using k3
        have t4 : (sk == 4) = false := by simpa using k4
        have hu : upd T i (T i) = T := by funext j; unfold upd; split <;> simp_all
        rw [hu]
        clear hu h1 h2 h3
        go_enter Try.func39, Try.ntmps39
        go_wp2_with fail
        go_end0
        exact ⟨rfl, HA.out⟩

theorem ftwin {w0 W : World} {n : Nat} {B : Nat → Nat} {T : Nat → Tb} (h : Fam w0 W n B T) (i : Nat) (hi : i < n) (b : Nat) (hb : B i = b) :
    Calls Try.prog 19 #[.pointer (some ⟨b, 0, none⟩)] W fun e w' => ∃ B', e = .returned (.pointer (some ⟨B', 0, none⟩)) ∧ Fam w0 w' (n + 1) (upd B n B') (upd T n (T i)) := by
  subst hb
  obtain ⟨gr, ge, h1, h2, h3⟩ := h.ex
  refine (twin_any W (h1 i hi)).mono ?_
  rintro e w' ⟨B', gr', ge', rfl, hT, hN, hf⟩
  have hs := h.fr.size
  have lt : ∀ j b, j < n → bl (B j) (gr j) (ge j) b → b < W.heap.size := by
    intro j b hj hb
    obtain ⟨rv, ev, hc, hr, he⟩ := (h1 j hj).ex
    rcases hb with hb | hb | hb
    · rw [hb]; exact lt_of_block hc
    · rw [hb]; exact hr.lt
    · rw [hb] at he; exact he.lt
  refine ⟨B', rfl, h.fr.trans hf, upd gr n gr', upd ge n ge', fun j hj => ?_, fun j b hj hb => ?_, fun j k b hj hk hne hb hb2 => ?_⟩
  · unfold upd
    by_cases e : j = n
    · simp only [if_pos e]; exact hT
    · simp only [if_neg e]; exact (h1 j (by omega)).step hf
  · unfold upd at hb
    by_cases e : j = n
    · simp only [if_pos e] at hb; have := hN b hb; omega
    · simp only [if_neg e] at hb; exact h2 j b (by omega) hb
  · unfold upd at hb hb2
    by_cases e : j = n
    · simp only [if_pos e] at hb
      have h5 := hN b hb
      simp only [if_neg (show ¬ k = n by omega)] at hb2
      have := lt k b (by omega) hb2
      omega
    · simp only [if_neg e] at hb
      by_cases e2 : k = n
      · simp only [if_pos e2] at hb2
        have h5 := hN b hb2
        have := lt j b (by omega) hb
        omega
      · simp only [if_neg e2] at hb2
        exact h3 j k b (by omega) (by omega) hne hb hb2
theorem falike {w0 W : World} {n : Nat} {B : Nat → Nat} {T : Nat → Tb} (h : Fam w0 W n B T) (i j : Nat) (hi : i < n) (hj : j < n) (he : T i = T j) (b1 b2 : Nat) (hb1 : B i = b1) (hb2 : B j = b2) :
    Calls Try.prog 40 #[.pointer (some ⟨b1, 0, none⟩), .pointer (some ⟨b2, 0, none⟩)] W fun e w' => e = .returned (.bool true) ∧ Fam w0 w' n B T := by
  subst hb1 hb2
  obtain ⟨gr, ge, h1, _⟩ := h.ex
  have ht := h1 j hj
  rw [← he] at ht
  refine (alike_any W (h1 i hi) ht).mono ?_
  rintro e w' ⟨rfl, hf⟩
  exact ⟨rfl, h.step hf⟩
theorem fnew (w0 W : World) (hf0 : Fr w0 W (fun _ => False)) : Calls Try.prog 17 #[] W fun e w' => e = .returned (.pointer (some ⟨W.heap.size + 1, 0, none⟩)) ∧ Fam w0 w' 1 (fun _ => W.heap.size + 1) (fun _ => newT zI) := by
  refine (new_any W).mono ?_
  rintro e w' ⟨rfl, hT, hf, _⟩
  have hs := hf0.size
  refine ⟨rfl, hf0.trans hf, fun _ => W.heap.size, fun _ => none, fun _ _ => hT, fun i b _ hb => ?_, fun i j b hi hj hne _ => by omega⟩
  rcases hb with hb | hb | hb
  · have hb : b = W.heap.size + 1 := hb
    omega
  · have hb : b = W.heap.size := hb
    omega
  · cases hb
end Go.Proofs.Ytobigmcklecbnaa
