/- What Range tells, as a function: cells in their order, from one to ahead of another, so many at most. Nothing of the program is used here. -/
import Derived.Test.YtgbkihkefdoddaaGreatDoorJoin20
import Derived.Test.YtgbkihkefdoddaaGreatDoorJoin22
namespace Go.Proofs.YtgbkihkefdoddaaGreatDoor.S
open G

/-- A cell as merge's. -/
def mc (c : Cl) : M.Cl := ⟨c.v, c.k, c.s⟩
theorem mc_inj {a b : Cl} (h : mc a = mc b) : a = b := by
  cases a; cases b
  simpa [mc] using h
def cmpS (a b : Cl) : Int := M.cmpC (mc a) (mc b)
theorem cmpS_flip (a b : Cl) : cmpS b a = - cmpS a b := M.cmpC_flip _ _
theorem cmpS_zero {a b : Cl} (h : cmpS a b = 0) : a = b := mc_inj (M.cmpC_zero.1 h)
theorem cmpS_self (a : Cl) : cmpS a a = 0 := M.cmpC_zero.2 rfl
theorem cmpS_trans {a b c : Cl} (h1 : cmpS a b ≤ 0) (h2 : cmpS b c ≤ 0) : cmpS a c ≤ 0 := M.cmC.trans _ _ _ h1 h2
theorem cmpS_lt_le {a b c : Cl} (h1 : cmpS a b < 0) (h2 : cmpS b c ≤ 0) : cmpS a c < 0 := M.cmC.strict h1 h2
theorem cmpS_le_lt {a b c : Cl} (h1 : cmpS a b ≤ 0) (h2 : cmpS b c < 0) : cmpS a c < 0 := M.cmC.strict' h1 h2
theorem cb_esc : ∀ (a b t u : List Nat), M.cb (esc a ++ (0 :: 0 :: t)) (esc b ++ (0 :: 0 :: u)) = if M.cb a b ≠ 0 then M.cb a b else M.cb t u
  | [], [], t, u => by simp [esc, M.cb]
  | [], y :: b, t, u => by
    unfold esc
    by_cases hy : y = 0
    · simp [hy, M.cb]
    · have : 0 < y := by omega
      simp [hy, M.cb, this]
  | x :: a, [], t, u => by
    unfold esc
    by_cases hx : x = 0
    · simp [hx, M.cb]
    · have : 0 < x := by omega
      simp [hx, M.cb, this]
  | x :: a, y :: b, t, u => by
    have ih := cb_esc a b t u
    simp only [esc]
    by_cases hx : x = 0
    · by_cases hy : y = 0
      · simp [hx, hy, M.cb, ih]
      · have : 0 < y := by omega
        simp [hx, hy, M.cb, this]
    · by_cases hy : y = 0
      · have : 0 < x := by omega
        simp [hx, hy, M.cb, this]
      · simp only [if_neg hx, if_neg hy, List.cons_append, M.cb, ih]
        by_cases h1 : x < y
        · simp [h1]
        · by_cases h2 : y < x
          · simp [h1, h2]
          · simp [h1, h2]
theorem be8_be (n : Nat) : be8 n = M.be 8 n := by simp [be8, M.be]
/-- Texts compare as cells do. -/
theorem cb_txt {a b : Cl} (ha : mayE a = 0) (hb : mayE b = 0) : M.cb (txt a) (txt b) = cmpS a b := by
  obtain ⟨⟨a1, a2⟩, _, a3, a4⟩ := mayE_zero ha
  obtain ⟨⟨b1, b2⟩, _, b3, b4⟩ := mayE_zero hb
  unfold txt
  rw [be8_be, be8_be]
  simp only [M.cb, cb_esc, M.cb_be]
  have e1 : stN a % 256 ^ 8 = stN a := Nat.mod_eq_of_lt (by unfold stN; omega)
  have e2 : stN b % 256 ^ 8 = stN b := Nat.mod_eq_of_lt (by unfold stN; omega)
  have e3 : M.cmpI (stN a : Int) (stN b : Int) = M.cmpI a.s b.s := by
    unfold M.cmpI stN
    by_cases h : a.s < b.s
    · rw [if_pos (by omega), if_pos h]
    · rw [if_neg (by omega), if_neg h]
      by_cases h2 : b.s < a.s
      · rw [if_pos (by omega), if_pos h2]
      · rw [if_neg (by omega), if_neg h2]
  rw [e1, e2, e3]
  unfold cmpS M.cmpC mc
  dsimp only
  by_cases h1 : a.v < b.v
  · rw [if_pos (by omega)]
    have : M.cmpI a.v b.v = -1 := by unfold M.cmpI; rw [if_pos h1]
    rw [this]
    simp
  · rw [if_neg (by omega)]
    by_cases h2 : b.v < a.v
    · rw [if_pos (by omega)]
      have : M.cmpI a.v b.v = 1 := by unfold M.cmpI; rw [if_neg h1, if_pos h2]
      rw [this]
      simp
    · rw [if_neg (by omega)]
      have : M.cmpI a.v b.v = 0 := by unfold M.cmpI; rw [if_neg h1, if_neg h2]
      rw [this]
      simp
theorem cb_key {a b : Cl} (ha : mayE a = 0) (hb : mayE b = 0) : Lib.compareBytes (key a).data.toList (key b).data.toList = cmpS a b := by
  rw [M.cb_nums8]
  unfold key
  rw [M.nums8_str8 (txt_byte ha), M.nums8_str8 (txt_byte hb), cb_txt ha hb]

/-- A shard's cells in their order. -/
def leV (a b : Cl × List Vn) : Prop := cmpS a.1 b.1 ≤ 0
def srt (V : Vw) : Vw := V.mergeSort (fun a b => decide (cmpS a.1 b.1 ≤ 0))
theorem srt_perm (V : Vw) : (srt V).Perm V := List.mergeSort_perm _ _
theorem srt_sorted (V : Vw) : (srt V).Pairwise leV := by
  have h := List.pairwise_mergeSort (le := fun (a b : Cl × List Vn) => decide (cmpS a.1 b.1 ≤ 0)) (fun a b c h1 h2 => by
    simp only [decide_eq_true_eq] at h1 h2 ⊢
    exact cmpS_trans h1 h2) (fun a b => by
    have := cmpS_flip a.1 b.1
    simp only [Bool.or_eq_true, decide_eq_true_eq]
    omega) V
  exact h.imp (fun h => by simpa [leV] using h)
/-- Unlike cells. -/
def Unl (V : Vw) : Prop := V.Pairwise (fun a b => a.1 ≠ b.1)
theorem unl_mem {V : Vw} (h : Unl V) {a b : Cl × List Vn} (ha : a ∈ V) (hb : b ∈ V) (e : a.1 = b.1) : a = b := by
  induction V with
  | nil => simp at ha
  | cons x V ih =>
    obtain ⟨h1, h2⟩ := List.pairwise_cons.1 h
    rcases List.mem_cons.1 ha with e1 | ha'
    · rcases List.mem_cons.1 hb with e2 | hb'
      · rw [e1, e2]
      · subst e1; exact absurd e (h1 b hb')
    · rcases List.mem_cons.1 hb with e2 | hb'
      · subst e2; exact absurd e.symm (h1 a ha')
      · exact ih h2 ha' hb'
/-- What is in order, and has the same cells, is that list. -/
theorem srt_one {V L : Vw} (hu : Unl V) (hp : L.Perm V) (hs : L.Pairwise leV) : L = srt V := by
  refine List.Perm.eq_of_pairwise (le := leV) (fun a b ha hb h1 h2 => ?_) hs (srt_sorted V) (hp.trans (srt_perm V).symm)
  have h3 := cmpS_flip a.1 b.1
  unfold leV at h1 h2
  exact unl_mem hu (hp.subset ha) ((srt_perm V).subset hb) (cmpS_zero (by omega))

/-- A row of a cell and what it tells. -/
def rowR (c : Cl) (a : A4) : M.Rw := ⟨mc c, a.c, a.s, a.m, a.x⟩
/-- Of cells in order: those that are told, ahead of a bound. -/
def inR (e : Int) (fr til : Cl) (x : Cl × List Vn) : Bool := decide (cmpS fr x.1 ≤ 0) && decide (cmpS x.1 til < 0) && decide (0 < (atE x.2 e).c)
def tl (e : Int) (fr til : Cl) (L : Vw) : List M.Rw := (L.filter (inR e fr til)).map (fun x => rowR x.1 (atE x.2 e))
def rangeL (V : Vw) (e : Int) (fr til : Cl) (most : Int) : List M.Rw := (tl e fr til (srt V)).take most.toNat
theorem tl_append (e : Int) (fr til : Cl) (A B : Vw) : tl e fr til (A ++ B) = tl e fr til A ++ tl e fr til B := by simp [tl]
theorem tl_one (e : Int) (fr til : Cl) (x : Cl × List Vn) : tl e fr til [x] = if inR e fr til x then [rowR x.1 (atE x.2 e)] else [] := by
  unfold tl
  cases h : inR e fr til x <;> simp [h]
theorem tl_le (e : Int) (fr til : Cl) (A : Vw) : (tl e fr til A).length ≤ A.length := by
  unfold tl
  rw [List.length_map]
  exact List.length_filter_le ..
/-- Left as it has so many. -/
theorem tl_full {e : Int} {fr til : Cl} {Ls pre : Vw} {most : Int} (hp : pre <+: Ls) (hl : (tl e fr til pre).length = most.toNat) : (tl e fr til Ls).take most.toNat = tl e fr til pre := by
  obtain ⟨t, rfl⟩ := hp
  rw [tl_append, List.take_append_of_le_length (by omega), ← hl, List.take_length]
/-- Left as one is not ahead of the bound. -/
theorem tl_bound {e : Int} {fr til : Cl} {Ls pre : Vw} {x : Cl × List Vn} {most : Int} (hs : Ls.Pairwise leV) (hp : (pre ++ [x]) <+: Ls) (hx : 0 ≤ cmpS x.1 til) (hl : (tl e fr til pre).length ≤ most.toNat) : (tl e fr til Ls).take most.toNat = tl e fr til pre := by
  obtain ⟨t, rfl⟩ := hp
  have hz : tl e fr til ([x] ++ t) = [] := by
    unfold tl
    rw [List.map_eq_nil_iff, List.filter_eq_nil_iff]
    intro y hy hi
    have hy2 : 0 ≤ cmpS y.1 til := by
      simp only [List.singleton_append, List.mem_cons] at hy
      rcases hy with rfl | hy
      · exact hx
      · rw [List.append_assoc, List.pairwise_append] at hs
        have h2 := (List.pairwise_cons.1 hs.2.1).1 y hy
        unfold leV at h2
        have h3 := cmpS_flip y.1 til
        have h4 := cmpS_flip x.1 til
        by_cases h5 : 0 ≤ cmpS y.1 til
        · exact h5
        · have := cmpS_le_lt h2 (show cmpS y.1 til < 0 by omega)
          omega
    unfold inR at hi
    simp only [Bool.and_eq_true, decide_eq_true_eq] at hi
    omega
  rw [List.append_assoc, tl_append, hz, List.append_nil, List.take_of_length_le hl]
theorem tl_all {e : Int} {fr til : Cl} {Ls : Vw} {most : Int} (hl : (tl e fr til Ls).length ≤ most.toNat) : (tl e fr til Ls).take most.toNat = tl e fr til Ls := List.take_of_length_le hl
end Go.Proofs.YtgbkihkefdoddaaGreatDoor.S
