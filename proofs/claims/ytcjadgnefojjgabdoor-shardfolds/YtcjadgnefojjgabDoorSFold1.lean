/- ShardFolds: what stands in its rounds. -/
import Derived.Test.YtcjadgnefojjgabDoorSFew
import Derived.Test.YtcjadgnefojjgabDoorSFoldP
import Derived.Test.YtcjadgnefojjgabDoorAStepK
namespace Go.Proofs.YtcjadgnefojjgabDoor.S
open Go.RowKit G

theorem ShI.lower {w : World} {base base' S slots B gr : Nat} {ge : Option Nat} {T : Tb} {M : List Ent} (h : ShI w base S slots B gr ge T M) (hb : base' ≤ base) (hg : gM < base') : ShI w base' S slots B gr ge T M :=
  { cell := h.cell, tb := h.tb, inv := h.inv, has := h.has
    ch := fun e he => ⟨(h.ch e he).cell, own_mono (h.ch e he).own hb, (h.ch e he).good, (h.ch e he).len⟩
    ne := h.ne, may := h.may, apart := h.apart, lo := fun b hx => Nat.le_trans hb (h.lo b hx), gl := h.gl, gb := hg, room := h.room, sl := h.sl, keys := h.keys, tlen := h.tlen }
theorem Sh.lower {w : World} {base base' S slots : Nat} {X : Nat → Prop} {V : Vw} (h : Sh w base S slots X V) (hb : base' ≤ base) (hg : gM < base') : Sh w base' S slots X V := by
  obtain ⟨B, gr, ge, T, M, h1, h2, h3⟩ := h
  exact ⟨B, gr, ge, T, M, h1.lower hb hg, h2, h3⟩
/-- New, amid a law, somewhat behind its beginning. -/
theorem hnew' {w W : World} (n : Int) (h2 : 2 ≤ n) (h3 : n ≤ 1048576) (hg : Gl w) (hf : Fr w W (fun _ => False)) :
    Calls Tryd.prog 4 #[.int .i64 n] W fun r w' => ∃ S, r = .returned (.tuple #[.pointer (some ⟨S, 0, none⟩), .int .i64 0]) ∧ Hd w w' S n.toNat [] ∧ Fr W w' (fun _ => False) := by
  refine (hnew n h2 h3 (hg.fr hf (fun h => h))).mono ?_
  rintro r w' ⟨S, rfl, ⟨X, h⟩, hf2⟩
  exact ⟨S, rfl, ⟨⟨X, h.lower hf.size hg.lt⟩, hf.trans hf2⟩, hf2⟩
theorem Hd.beside {w W W' : World} {S slots : Nat} {V : Vw} (h : Hd w W S slots V) {P : Nat → Prop} (hf : Fr W W' P) (hP : ∀ b, b < W.heap.size → P b → w.heap.size ≤ b ∧ ∃ t, Kd W b t ∧ okT t) : Hd w W' S slots V := by
  obtain ⟨X, h1⟩ := h.sh
  have hg : gM < w.heap.size := by
    obtain ⟨B, gr, ge, T, M, h2, _, _⟩ := h1
    exact h2.gb
  refine ⟨⟨X, h1.fr hf (fun b hb hp => ?_) (fun hp => ?_)⟩, h.fr.trans2 hf (fun i hi hp => ?_)⟩
  · obtain ⟨_, t, hk, ht⟩ := hP b (h1.lt b hb) hp
    exact h1.not hk ht hb
  · have := (hP gM (Nat.lt_of_lt_of_le hg h.fr.size) hp).1
    omega
  · have := (hP i (Nat.lt_of_lt_of_le hi h.fr.size) hp).1
    omega

/-- One value more. -/
def stepA4 (a : A4) (x : Int) : A4 := if a.c = 0 then ⟨1, x, x, x⟩ else ⟨a.c + 1, a.s + x, min a.m x, max a.x x⟩
/-- An aggregate of i values, each small. -/
def Cu (i : Nat) (a : A4) : Prop := a.c = (i : Int) ∧ -((i : Int) * 9223372036854776) ≤ a.s ∧ a.s ≤ (i : Int) * 9223372036854776 ∧ fits a.m ∧ fits a.x ∧ (i = 0 → a = a0) ∧ (1 ≤ i → rightA a = true)
theorem Cu.zero : Cu 0 a0 := ⟨rfl, by decide, by decide, by unfold fits a0; decide, by unfold fits a0; decide, fun _ => rfl, fun h => by omega⟩
theorem Cu.step {i : Nat} {a : A4} (h : Cu i a) {x : Int} (h1 : -9223372036854775 ≤ x) (h2 : x ≤ 9223372036854775) : Cu (i + 1) (stepA4 a x) := by
  obtain ⟨e1, e2, e3, e4, e5, e6, e7⟩ := h
  unfold stepA4
  by_cases hi : i = 0
  · subst hi
    rw [if_pos (by rw [e1]; rfl)]
    refine ⟨rfl, by simp only; omega, by simp only; omega, by unfold fits; simp only; omega, by unfold fits; simp only; omega, fun h => by omega, fun _ => oneA_right x⟩
  · rw [if_neg (by rw [e1]; omega)]
    refine ⟨by simp only; omega, by simp only; omega, by simp only; omega, ?_, ?_, fun h => by omega, fun _ => ?_⟩
    · unfold fits at *; simp only; omega
    · unfold fits at *; simp only; omega
    · exact A.right_put a.c a.s a.m a.x x (by omega) (e7 (by omega))
theorem Cu.fit {i : Nat} {a : A4} (h : Cu i a) (hi : i ≤ 100) : fit4 a := by
  obtain ⟨e1, e2, e3, e4, e5, _⟩ := h
  exact ⟨by unfold fits; omega, by unfold fits; omega, e4, e5⟩
/-- agg.Put of it. -/
theorem aput {i : Nat} {a : A4} (h : Cu i a) (hi : i ≤ 100) {x : Int} (h1 : -9223372036854775 ≤ x) (h2 : x ≤ 9223372036854775) (w : World) :
    Calls Tryd.prog 7 #[.agg #[.int .i64 a.c, .int .i64 a.s, .int .i64 a.m, .int .i64 a.x], .int .i64 x] w fun e w' => e = .returned (.tuple #[.agg #[.int .i64 (stepA4 a x).c, .int .i64 (stepA4 a x).s, .int .i64 (stepA4 a x).m, .int .i64 (stepA4 a x).x], .nilIface]) ∧ Fr w w' (fun _ => False) := by
  obtain ⟨e1, e2, e3, e4, e5, e6, e7⟩ := h
  have h5 := A.aput_any ⟨a.c, a.s, a.m, a.x⟩ x (fun h0 => by
    have : i = 0 := by simp only at h0; omega
    rw [e6 this]; rfl) (by unfold A.fits; simp only; omega) (by unfold A.fits; simp only; omega) w
  have e : ∀ (f : A.Ag → Int) (g : A4 → Int), (∀ p q r s, f ⟨p, q, r, s⟩ = g ⟨p, q, r, s⟩) → f (A.stepA ⟨a.c, a.s, a.m, a.x⟩ x) = g (stepA4 a x) := by
    intro f g hfg
    unfold A.stepA stepA4
    by_cases h0 : a.c = 0
    · rw [if_pos h0, if_pos h0]; exact hfg _ _ _ _
    · rw [if_neg h0, if_neg h0]; exact hfg _ _ _ _
  rw [e (·.c) (·.c) (fun _ _ _ _ => rfl), e (·.s) (·.s) (fun _ _ _ _ => rfl), e (·.lo) (·.m) (fun _ _ _ _ => rfl), e (·.hi) (·.x) (fun _ _ _ _ => rfl)] at h5
  exact h5

/-- What a shard has of the folds. -/
def Vof (d : Cl) (F : List A4) : Vw := if F = [] then [] else [(d, vG 1 F)]
def cur (F : List A4) : A4 := (nw (vG 1 F)).v
theorem tell_Vof (d : Cl) (hd : mayE d = 0) (F : List A4) (n : Nat) : tellA (Vof d F) d (n : Int) = if n = 0 then cur F else lst F n := by
  have hg : getV (Vof d F) d = vG 1 F := by
    unfold Vof
    by_cases h : F = []
    · subst h; rw [if_pos rfl]; rfl
    · rw [if_neg h, get1]
  unfold tellA
  rw [if_pos hd, hg]
  unfold atE
  by_cases h : n = 0
  · subst h
    rfl
  · rw [if_neg (by omega), if_neg h, at_vG]
    rfl
/-- In the rounds: values so far, the epoch, the folds. -/
structure FI (i ep : Nat) (F : List A4) : Prop where
  cu : Cu i (cur F)
  le : F.length ≤ ep
  top : ep ≤ i + 1
  pos : 1 ≤ ep
  el : ∀ a ∈ F, a = a0 ∨ 1 ≤ a.c
  lastne : F = [] ∨ ∃ F0 b, F = F0 ++ [b] ∧ b.c ≠ 0
theorem FI.zero : FI 0 1 [] := ⟨Cu.zero, Nat.zero_le _, Nat.le_refl _, Nat.le_refl _, fun a h => by simp at h, Or.inl rfl⟩
def setF (F : List A4) (ep : Nat) (a : A4) : List A4 := (F ++ List.replicate (ep - F.length) a0).set (ep - 1) a
theorem cur_snoc (F0 : List A4) (b : A4) (h : b.c ≠ 0) : vG 1 (F0 ++ [b]) = vG 1 F0 ++ [⟨((1 + F0.length : Nat) : Int), true, b⟩] := by
  rw [vG_app]
  simp only [vG, if_neg h]
theorem setF_eq {F : List A4} {ep : Nat} (hl : F.length ≤ ep) (hp : 1 ≤ ep) (hne : F = [] ∨ ∃ F0 b, F = F0 ++ [b] ∧ b.c ≠ 0) (a : A4) (ha : a.c ≠ 0) : ∃ F0, setF F ep a = F0 ++ [a] ∧ F0.length + 1 = ep ∧ (∀ y ∈ F0, y ∈ F ∨ y = a0) ∧ layL (vG 1 F) ⟨(ep : Int), true, a⟩ = vG 1 (setF F ep a) := by
  unfold setF
  by_cases h : F.length = ep
  · rcases hne with rfl | ⟨F0, b, rfl, hb⟩
    · simp at h; omega
    · rw [List.length_append] at h
      simp only [List.length_cons, List.length_nil] at h
      refine ⟨F0, ?_, h, fun y hy => Or.inl (by simp [hy]), ?_⟩
      · rw [show ep - (F0 ++ [b]).length = 0 by simp; omega, List.replicate_zero, List.append_nil, List.set_append_right _ _ (by omega), show ep - 1 - F0.length = 0 by omega]
        rfl
      · rw [show ep - (F0 ++ [b]).length = 0 by simp; omega, List.replicate_zero, List.append_nil, List.set_append_right _ _ (by omega), show ep - 1 - F0.length = 0 by omega]
        rw [show [b].set 0 a = [a] from rfl, cur_snoc _ _ hb, cur_snoc _ _ ha]
        unfold layL
        rw [nw_snoc, if_pos (by simp only; omega)]
        simp
        omega
  · have e : (F ++ List.replicate (ep - F.length) a0).set (ep - 1) a = (F ++ List.replicate (ep - 1 - F.length) a0) ++ [a] := by
      rw [show ep - F.length = (ep - 1 - F.length) + 1 by omega, List.replicate_succ', ← List.append_assoc, List.set_append_right _ _ (by simp; omega)]
      rw [show ep - 1 - (F ++ List.replicate (ep - 1 - F.length) a0).length = 0 by simp; omega]
      rfl
    rw [e]
    refine ⟨_, rfl, by simp; omega, fun y hy => ?_, ?_⟩
    · rcases List.mem_append.1 hy with h1 | h1
      · exact Or.inl h1
      · exact Or.inr (List.eq_of_mem_replicate h1)
    · rw [cur_snoc _ _ ha, vG_app, vG_zero, List.append_nil]
      unfold layL
      have hlt : (nw (vG 1 F)).e < (ep : Int) := by
        by_cases hv : vG 1 F = []
        · rw [hv]; simp [nw, z0]; omega
        · have := vG_ep 1 F _ (nw_mem hv)
          omega
      rw [if_neg (by simp only; omega)]
      congr 2
      congr 1
      simp
      omega
/-- The step of a round. -/
theorem FI.step {i ep ep' : Nat} {F : List A4} (h : FI i ep F) (h1 : ep ≤ ep') {x : Int} (hx1 : -9223372036854775 ≤ x) (hx2 : x ≤ 9223372036854775) (hi : i < 60) (d : Cl) (hd : mayE d = 0) (hge : ep' ≤ i + 1 + 1) :
    FI (i + 1) ep' (setF F ep' (stepA4 (cur F) x)) ∧ putErr (Vof d F) 200 (ep' : Int) d (stepA4 (cur F) x) = 0 ∧ putS (Vof d F) 200 (ep' : Int) d (stepA4 (cur F) x) = Vof d (setF F ep' (stepA4 (cur F) x)) ∧ (setF F ep' (stepA4 (cur F) x)).length = ep' ∧ fit4 (stepA4 (cur F) x) := by
  have hc := h.cu.step hx1 hx2
  have ha : (stepA4 (cur F) x).c ≠ 0 := by rw [hc.1]; omega
  obtain ⟨F0, e1, e2, e3, e4⟩ := setF_eq (ep := ep') (Nat.le_trans h.le h1) (Nat.le_trans h.pos h1) h.lastne (stepA4 (cur F) x) ha
  have hg : getV (Vof d F) d = vG 1 F := by
    unfold Vof
    by_cases h : F = []
    · subst h; rw [if_pos rfl]; rfl
    · rw [if_neg h, get1]
  have hgl : (vG 1 F).length ≤ 61 := by have := vG_len 1 F; have := h.le; have := h.top; omega
  have hu : nU (Vof d F) ≤ 62 := by
    unfold Vof
    by_cases h : F = []
    · rw [if_pos h]; simp [nU, nV, nT]
    · rw [if_neg h, nU1]
      have := th_le (vG 1 F)
      omega
  have hnw : (nw (vG 1 F)).e ≤ (F.length : Int) := by
    by_cases hv : vG 1 F = []
    · rw [hv]; simp [nw, z0]
    · have := vG_ep 1 F _ (nw_mem hv)
      omega
  have hle := h.le
  have hpe : putErr (Vof d F) 200 (ep' : Int) d (stepA4 (cur F) x) = 0 := by
    unfold putErr
    rw [if_neg (by simpa using hd), if_neg (by have := h.pos; omega), if_neg (by rw [hc.2.2.2.2.2.2 (by omega)]; simpa using ha), hg, if_neg (by omega), if_neg (by have := needN_le (vG 1 F) (ep' : Int); omega)]
  refine ⟨⟨?_, by rw [e1]; simp; omega, by omega, by have := h.pos; omega, ?_, Or.inr ⟨F0, _, e1, ha⟩⟩, hpe, ?_, by rw [e1]; simp; omega, hc.fit (by omega)⟩
  · have : cur (setF F ep' (stepA4 (cur F) x)) = stepA4 (cur F) x := by
      show (nw (vG 1 (setF F ep' (stepA4 (cur F) x)))).v = _
      rw [e1, cur_snoc _ _ ha, nw_snoc]
    rw [this]
    exact hc
  · intro y hy
    rw [e1] at hy
    rcases List.mem_append.1 hy with h5 | h5
    · rcases e3 y h5 with h6 | h6
      · exact h.el y h6
      · exact Or.inl h6
    · simp at h5
      rw [h5]
      exact Or.inr (by rw [hc.1]; omega)
  · unfold putS
    rw [hpe, if_pos rfl, hg, e4]
    have hne : setF F ep' (stepA4 (cur F) x) ≠ [] := by rw [e1]; simp
    conv => rhs; unfold Vof
    rw [if_neg hne]
    unfold Vof
    by_cases h5 : F = []
    · rw [if_pos h5, set0]
    · rw [if_neg h5, set1]
end Go.Proofs.YtcjadgnefojjgabDoor.S
