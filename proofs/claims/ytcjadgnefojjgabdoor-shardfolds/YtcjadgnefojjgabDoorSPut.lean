/- shard: Put: a walk. -/
import Derived.Test.YtcjadgnefojjgabDoorSLay
namespace Go.Proofs.YtcjadgnefojjgabDoor.S
open Go.RowKit G

def rightA (a : A4) : Bool := A.rightB a.c a.s a.m a.x
/-- P703: the error. -/
noncomputable def putErr (V : Vw) (slots : Nat) (e : Int) (c : Cl) (a : A4) : Int :=
  if mayE c ≠ 0 then mayE c else if e < 1 ∨ 1099511627776 < e then 1 else if a.c = 0 ∨ rightA a = false then 1 else if e < (nw (getV V c)).e then 32 else if slots < nU V + needN (getV V c) e then 31 else 0
noncomputable def putS (V : Vw) (slots : Nat) (e : Int) (c : Cl) (a : A4) : Vw := if putErr V slots e c a = 0 then setV V c (layL (getV V c) ⟨e, true, a⟩) else V
/-- What a write leaves. -/
def Left (w w' : World) (base S slots : Nat) (X : Nat → Prop) (V' : Vw) : Prop := ∃ X', Sh w' base S slots X' V' ∧ Fr w w' X ∧ ∀ b, X' b → X b ∨ w.heap.size ≤ b
theorem Left.none {w w' : World} {base S slots : Nat} {X : Nat → Prop} {V : Vw} (h : Sh w base S slots X V) (hf : Fr w w' (fun _ => False)) : Left w w' base S slots X V := ⟨X, h.step hf, hf.mono (fun _ _ h => h.elim), fun _ h => Or.inl h⟩
theorem Found.pre {w W w2 : World} {base : Nat} {M : List Ent} {c : Cl} {e : Ent} (h : Found W w2 base M c e) (hf : Fr w W (fun _ => False)) : Found w w2 base M c e :=
  ⟨h.1, h.2.1, h.2.2.1, hf.trans h.2.2.2.1, h.2.2.2.2.imp id (fun ⟨a, b, c⟩ => ⟨a, Nat.le_trans hf.size b, c⟩)⟩
theorem Found.step {w w1 w2 : World} {base : Nat} {M : List Ent} {c : Cl} {e : Ent} (h : Found w w1 base M c e) (hf : Fr w1 w2 (fun _ => False)) : Found w w2 base M c e :=
  ⟨h.1, h.2.1, h.2.2.1.step hf, h.2.2.2.1.trans hf, h.2.2.2.2⟩
/-- A row that was handed in, in its block. -/
def Ro7 (W : World) (N : Nat) (c : Cl) (a : A4) : Prop := W.heap[N]? = some (.cells #[.int .i64 c.v, .string c.k, .int .i64 c.s, .int .i64 a.c, .int .i64 a.s, .int .i64 a.m, .int .i64 a.x] 42 (0, 0))
theorem Ro7.fr {W W' : World} {P : Nat → Prop} {N : Nat} {c : Cl} {a : A4} (h : Ro7 W N c a) (hf : Fr W W' P) (hP : ¬ P N) : Ro7 W' N c a := (hf.block N (lt_of_block h) hP).trans h
theorem Ro7.cells {W : World} {N : Nat} {c : Cl} {a : A4} (h : Ro7 W N c a) : W.cell? ⟨N, 0, none⟩ = some (.int .i64 c.v) ∧ W.cell? ⟨N, 1, none⟩ = some (.string c.k) ∧ W.cell? ⟨N, 2, none⟩ = some (.int .i64 c.s) ∧ W.cell? ⟨N, 3, none⟩ = some (.int .i64 a.c) ∧ W.cell? ⟨N, 4, none⟩ = some (.int .i64 a.s) ∧ W.cell? ⟨N, 5, none⟩ = some (.int .i64 a.m) ∧ W.cell? ⟨N, 6, none⟩ = some (.int .i64 a.x) := by
  have h' : W.heap[N]? = _ := h
  refine ⟨?_, ?_, ?_, ?_, ?_, ?_, ?_⟩ <;> simp [World.cell?, h']

/-- The numbers behind a Put. -/
theorem put_nums {V : Vw} {c : Cl} {e : Int} {a : A4} (hg : G.Good (getV V c)) (he : 1 ≤ e ∧ e ≤ 1099511627776) (ha : fit4 a) (hle : (nw (getV V c)).e ≤ e) :
    (nV (setV V c (layL (getV V c) ⟨e, true, a⟩)) : Int) = nV V + layN (getV V c) ⟨e, true, a⟩ ∧ (nT (setV V c (layL (getV V c) ⟨e, true, a⟩)) : Int) = nT V + ((needN (getV V c) e : Int) - layN (getV V c) ⟨e, true, a⟩) ∧ (mxV (setV V c (layL (getV V c) ⟨e, true, a⟩)) : Int) = max (mxV V : Int) ((layL (getV V c) ⟨e, true, a⟩).length : Int) ∧ nU (setV V c (layL (getV V c) ⟨e, true, a⟩)) = nU V + needN (getV V c) e := by
  have hx : (⟨e, true, a⟩ : Vn).ok := ⟨he.1, he.2, ha, fun h => by cases h⟩
  have h1 := layL_len hg ⟨e, true, a⟩ hx
  have h2 := setV_nV V c (layL (getV V c) ⟨e, true, a⟩)
  have h3 := setV_nT V c (layL (getV V c) ⟨e, true, a⟩)
  have hn : 0 ≤ layN (getV V c) ⟨e, true, a⟩ := by unfold layN; split <;> omega
  have h4 := setV_mx V c (layL (getV V c) ⟨e, true, a⟩) (by omega)
  have h5 : th (layL (getV V c) ⟨e, true, a⟩) = 1 := by unfold th; rw [layL_nw]; rfl
  have h6 : (needN (getV V c) e : Int) = layN (getV V c) ⟨e, true, a⟩ + (1 - (th (getV V c) : Int)) := by
    unfold needN layN th
    rw [if_neg (by omega)]
    dsimp only
    by_cases hq : e = (nw (getV V c)).e
    · rw [if_neg (by omega), if_pos hq]
      split <;> simp
    · rw [if_pos (by omega), if_neg hq]
      split <;> simp
  rw [h5] at h3
  have h7 := (getV_nV V c).2
  refine ⟨by omega, by omega, by rw [h4]; omega, ?_⟩
  unfold nU
  omega

set_option maxHeartbeats 2000000 in
set_option maxRecDepth 100000 in
theorem put_err {base S slots : Nat} {X : Nat → Prop} {V : Vw} (e : Int) (c : Cl) (a : A4) (w : World) (h : Sh w base S slots X V) (hk : c.k.size ≤ 9223372036854775807) (ha : fit4 a) (hbad : mayE c ≠ 0 ∨ (e < 1 ∨ 1099511627776 < e) ∨ (a.c = 0 ∨ rightA a = false)) :
    Calls Tryd.prog 9 #[.pointer (some ⟨S, 0, none⟩), .int .i64 e, .agg #[.int .i64 c.v, .string c.k, .int .i64 c.s, .int .i64 a.c, .int .i64 a.s, .int .i64 a.m, .int .i64 a.x]] w fun r w' => r = .returned (.int .i64 (putErr V slots e c a)) ∧ Left w w' base S slots X (putS V slots e c a) := by
  have HCk := hid (fun W => check_any e c W hk)
  have HRt := hid (fun W => A.right_any ⟨a.c, a.s, a.m, a.x⟩ ⟨ha.1, ha.2.1, ha.2.2.1, ha.2.2.2⟩ W)
  have HSh := hid h
  have key : ∀ m : Int, m ≠ 0 → putErr V slots e c a = m → (∀ w', Fr w w' (fun _ => False) → Left w w' base S slots X (putS V slots e c a)) := by
    intro m hm he w' hf
    have : putS V slots e c a = V := by unfold putS; rw [he, if_neg hm]
    rw [this]
    exact Left.none h hf
  by_cases h1 : mayE c = 0
  · by_cases h2 : e < 1 ∨ 1099511627776 < e
    · have he : putErr V slots e c a = 1 := by unfold putErr; rw [if_neg (by simpa using h1), if_pos h2]
      have HK := hid (key 1 (by decide) he)
      rw [he]
      rw [h1, if_pos rfl, if_pos h2] at HCk
      clear h key h1 h2 hbad he
      go_enter Tryd.func9, Tryd.ntmps9
      go_wp2_with fail
      refine (HCk.out _).mono ?_
      rintro r w1 ⟨rfl, hf⟩
      have HF := hid ((alloc_fr w _ _).trans hf)
      clear hf
      go_wp2_with fail
      go_ret
      exact ⟨rfl, HK.out _ HF.out⟩
    · have h3 : a.c = 0 ∨ rightA a = false := by
        rcases hbad with h | h | h
        · exact absurd h1 h
        · exact absurd h h2
        · exact h
      have he : putErr V slots e c a = 1 := by unfold putErr; rw [if_neg (by simpa using h1), if_neg h2, if_pos h3]
      have HK := hid (key 1 (by decide) he)
      rw [he]
      rw [h1, if_pos rfl, if_neg h2] at HCk
      by_cases h4 : a.c = 0
      · rw [h4]
        have hab : a = ⟨0, a.s, a.m, a.x⟩ := by cases a; simp only at h4; subst h4; rfl
        clear h key h1 h2 hbad he h3 hab
        go_enter Tryd.func9, Tryd.ntmps9
        go_wp2_with fail
        refine (HCk.out _).mono ?_
        rintro r w1 ⟨rfl, hf⟩
        have HR : Hid (Ro7 w1 w.heap.size c ⟨0, a.s, a.m, a.x⟩) := (hf.block w.heap.size (by simp) (fun h => h)).trans (heap_last _ _ _ rfl)
        obtain ⟨r0, r1, r2, r3, r4, r5, r6⟩ := HR.out.cells
        have hrl := lt_of_block HR.out
        have HF := hid ((alloc_fr w _ _).trans hf)
        clear hf
        dsimp only at r3 r4 r5 r6
        go_wp2_with fail
        go_ret
        exact ⟨rfl, HK.out _ HF.out⟩
      · have h5 : rightA a = false := by
          rcases h3 with h3 | h3
          · exact absurd h3 h4
          · exact h3
        have t4 : (a.c == 0) = false := by simpa using h4
        have h6 : A.rightB a.c a.s a.m a.x = false := h5
        rw [h6] at HRt
        clear h key h1 h2 hbad he h3 h4 h5 h6
        go_enter Tryd.func9, Tryd.ntmps9
        go_wp2_with fail
        refine (HCk.out _).mono ?_
        rintro r w1 ⟨rfl, hf⟩
        have HR : Hid (Ro7 w1 w.heap.size c a) := (hf.block w.heap.size (by simp) (fun h => h)).trans (heap_last _ _ _ rfl)
        obtain ⟨r0, r1, r2, r3, r4, r5, r6⟩ := HR.out.cells
        have hrl := lt_of_block HR.out
        have HF := hid ((alloc_fr w _ _).trans hf)
        clear hf
        go_wp2_with fail
        refine (HRt.out _).mono ?_
        rintro r w2 ⟨rfl, hf⟩
        have HF2 := hid (HF.out.trans hf)
        clear hf
        go_wp2_with fail
        go_ret
        exact ⟨rfl, HK.out _ HF2.out⟩
  · have he : putErr V slots e c a = mayE c := by unfold putErr; rw [if_pos h1]
    have HK := hid (key (mayE c) h1 he)
    rw [he]
    rw [if_neg h1] at HCk
    generalize mayE c = m at *
    have t1 : (m != 0) = true := by simpa using h1
    clear h key h1 hbad he
    go_enter Tryd.func9, Tryd.ntmps9
    go_wp2_with fail
    refine (HCk.out _).mono ?_
    rintro r w1 ⟨rfl, hf⟩
    have HF := hid ((alloc_fr w _ _).trans hf)
    clear hf
    go_wp2_with fail
    go_ret
    exact ⟨rfl, HK.out _ HF.out⟩
end Go.Proofs.YtcjadgnefojjgabDoor.S
