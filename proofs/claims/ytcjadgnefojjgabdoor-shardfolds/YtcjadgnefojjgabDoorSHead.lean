/- shard: Put whole; the law's one, head: walks. -/
import Derived.Test.YtcjadgnefojjgabDoorSKill
namespace Go.Proofs.YtcjadgnefojjgabDoor.S
open Go.RowKit G

theorem put_any {base S slots : Nat} {X : Nat → Prop} {V : Vw} (e : Int) (c : Cl) (a : A4) (w : World) (h : Sh w base S slots X V) (hk : c.k.size ≤ 9223372036854775807) (ha : fit4 a) :
    Calls Tryd.prog 9 #[.pointer (some ⟨S, 0, none⟩), .int .i64 e, .agg #[.int .i64 c.v, .string c.k, .int .i64 c.s, .int .i64 a.c, .int .i64 a.s, .int .i64 a.m, .int .i64 a.x]] w fun r w' => r = .returned (.int .i64 (putErr V slots e c a)) ∧ Left w w' base S slots X (putS V slots e c a) := by
  by_cases hbad : mayE c ≠ 0 ∨ (e < 1 ∨ 1099511627776 < e) ∨ (a.c = 0 ∨ rightA a = false)
  · exact put_err e c a w h hk ha hbad
  · have h1 : mayE c = 0 := Classical.byContradiction (fun h1 => hbad (Or.inl h1))
    have h2 : ¬ (e < 1 ∨ 1099511627776 < e) := fun h1 => hbad (Or.inr (Or.inl h1))
    have h3 : ¬ a.c = 0 := fun h1 => hbad (Or.inr (Or.inr (Or.inl h1)))
    have h4 : rightA a = true := by
      cases h5 : rightA a
      · exact absurd (Or.inr (Or.inr (Or.inr h5))) hbad
      · rfl
    exact put_ok e c a w h ha h1 (by omega) h3 h4

/-- An aggregate of one value. -/
def oneA (v : Int) : A4 := ⟨1, v, v, v⟩
theorem oneA_right (v : Int) : rightA (oneA v) = true := by
  unfold rightA oneA A.rightB
  simp
theorem oneA_fit {v : Int} (h : fits v) : fit4 (oneA v) := ⟨by unfold fits oneA; dsimp only; omega, h, h, h⟩
theorem one_any (v : Int) (w : World) :
    Calls Tryd.prog 25 #[.int .i64 v] w fun r w' => r = .returned (.agg #[.int .i64 1, .int .i64 v, .int .i64 v, .int .i64 v]) ∧ Fr w w' (fun _ => False) := by
  go_enter Tryd.func25, Tryd.ntmps25
  go_wp2_with fail
  refine bodyPost_ret (v := .agg #[.int .i64 1, .int .i64 v, .int .i64 v, .int .i64 v]) (by simp [results, Tryd.results25, go_sem]) rfl ⟨rfl, ?_⟩
  repeat (first | with_reducible exact Fr.refl _ _ | with_reducible apply Fr.alloc | (with_reducible refine Fr.setCell ?_ ?_ _; rotate_left; (intro h; exact absurd h (Nat.lt_irrefl _))))

/-- One cell alone. -/
theorem get1 (c : Cl) (L : List Vn) : getV [(c, L)] c = L := by simp [getV]
theorem set0 (c : Cl) (L : List Vn) : setV [] c L = [(c, L)] := rfl
theorem set1 (c : Cl) (L L' : List Vn) : setV [(c, L)] c L' = [(c, L')] := by simp [setV]
theorem nU1 (c : Cl) (L : List Vn) : nU [(c, L)] = L.length + th L := by simp [nU, nV, nT]
theorem mx1 (c : Cl) (L : List Vn) : mxV [(c, L)] = L.length := by simp [mxV]
theorem nT1 (c : Cl) (L : List Vn) : nT [(c, L)] = th L := by simp [nT]

def cA : Cl := ⟨0, ⟨#[97]⟩, 0⟩
def L1 : List Vn := [⟨1, true, oneA 5⟩]
def L2 : List Vn := [⟨1, true, oneA 5⟩, ⟨2, true, oneA 6⟩]
theorem mayA : mayE cA = 0 := by decide
theorem head1 : putErr [] 6 1 cA (oneA 5) = 0 ∧ putS [] 6 1 cA (oneA 5) = [(cA, L1)] := by
  have h1 : putErr [] 6 1 cA (oneA 5) = 0 := by
    unfold putErr
    rw [if_neg (by rw [mayA]; simp), if_neg (by omega), if_neg (by rw [oneA_right]; simp [oneA]), if_neg (by simp [getV, nw, z0]), if_neg (by simp [getV, nU, nV, nT, needN, nw, z0])]
  refine ⟨h1, ?_⟩
  unfold putS
  rw [h1, if_pos rfl]
  rfl
theorem head2 : putErr [(cA, L1)] 6 2 cA (oneA 6) = 0 ∧ putS [(cA, L1)] 6 2 cA (oneA 6) = [(cA, L2)] := by
  have h1 : putErr [(cA, L1)] 6 2 cA (oneA 6) = 0 := by
    unfold putErr
    rw [if_neg (by rw [mayA]; simp), if_neg (by omega), if_neg (by rw [oneA_right]; simp [oneA]), get1, if_neg (by simp [L1, nw]), if_neg (by rw [nU1]; simp [L1, needN, nw, th])]
  refine ⟨h1, ?_⟩
  unfold putS
  rw [h1, if_pos rfl, get1, set1]
  rfl
theorem head3 : nU [(cA, L2)] = 3 ∧ nT [(cA, L2)] = 1 ∧ mxV [(cA, L2)] = 2 ∧ tellA [(cA, L2)] cA 0 = oneA 6 ∧ tellA [(cA, L2)] cA 1 = oneA 5 := by
  refine ⟨by rw [nU1]; rfl, by rw [nT1]; rfl, by rw [mx1]; rfl, ?_, ?_⟩
  · unfold tellA
    rw [if_pos mayA, get1]
    rfl
  · unfold tellA
    rw [if_pos mayA, get1]
    rfl

theorem sh_nil (W : World) (B : Nat) : (binOp .eql 26 (.pointer (some ⟨B, 0, none⟩)) (.pointer none)).run Tryd.prog W = .ok (.bool false) W := by kernel_rfl

/-- The kinds of a shard's blocks. -/
def okT (t : TypeId) : Prop := t ≠ 53 ∧ t ≠ 97 ∧ t ≠ 113 ∧ t ≠ 91 ∧ t ≠ 87
theorem Sh.not {w : World} {base S slots : Nat} {X : Nat → Prop} {V : Vw} (h : Sh w base S slots X V) {N : Nat} {t : TypeId} (hk : Kd w N t) (ht : okT t) : ¬ X N := by
  obtain ⟨B, gr, ge, T, M, h1, _, rfl⟩ := h
  obtain ⟨t1, t2, t3, t4, t5⟩ := ht
  obtain ⟨kB, kg, ke⟩ := tb_kd h1.tb
  rintro (rfl | (rfl | rfl | hb) | ⟨e, he, rfl | hb⟩)
  · exact hk.ne ⟨_, h1.cell⟩ t1 rfl
  · exact hk.ne kB t2 rfl
  · exact hk.ne kg t3 rfl
  · exact hk.ne (ke N hb) t3 rfl
  · exact hk.ne (ch_kd (h1.ch e he)).1 t4 rfl
  · exact hk.ne ((ch_kd (h1.ch e he)).2 N hb) t5 rfl
/-- Amid a law: a shard; nothing that was there ahead of it has turned. -/
structure Hd (w W : World) (S slots : Nat) (V : Vw) : Prop where
  sh : ∃ X, Sh W w.heap.size S slots X V
  fr : Fr w W (fun _ => False)
/-- What a step leaves of blocks that are no shard's. -/
def Kp (W W' : World) : Prop := W.heap.size ≤ W'.heap.size ∧ ∀ N t, Kd W N t → okT t → W'.heap[N]? = W.heap[N]?
theorem Kp.refl (W : World) : Kp W W := ⟨Nat.le_refl _, fun _ _ _ _ => rfl⟩
theorem Kp.of {W W' : World} (hf : Fr W W' (fun _ => False)) : Kp W W' := ⟨hf.size, fun N _ hk _ => hf.block N hk.lt (fun h => h)⟩
theorem Kp.trans {a b c : World} (h : Kp a b) (k : Kp b c) : Kp a c := ⟨Nat.le_trans h.1 k.1, fun N t hk ht => by
  have h1 := h.2 N t hk ht
  obtain ⟨cs, hc⟩ := hk
  exact (k.2 N t ⟨cs, h1.trans hc⟩ ht).trans h1⟩
theorem Kp.block {W W' : World} (h : Kp W W') {N : Nat} {cs : Array Value} {t : TypeId} (hk : W.heap[N]? = some (.cells cs t (0, 0))) (ht : okT t) : W'.heap[N]? = some (.cells cs t (0, 0)) := (h.2 N t ⟨cs, hk⟩ ht).trans hk
theorem Hd.step {w W W' : World} {S slots : Nat} {V : Vw} (h : Hd w W S slots V) (hf : Fr W W' (fun _ => False)) : Hd w W' S slots V := ⟨by obtain ⟨X, h1⟩ := h.sh; exact ⟨X, h1.step hf⟩, h.fr.trans hf⟩
theorem Hd.left {w W W' : World} {S slots : Nat} {V V' : Vw} (h : Hd w W S slots V) (hl : ∀ X, Sh W w.heap.size S slots X V → Left W W' w.heap.size S slots X V') : Hd w W' S slots V' ∧ Kp W W' := by
  obtain ⟨X, h1⟩ := h.sh
  obtain ⟨X', h2, h3, _⟩ := hl X h1
  exact ⟨⟨⟨X', h2⟩, h.fr.trans2 h3 (fun i hi hx => by have := h1.lo i hx; omega)⟩, h3.size, fun N t hk ht => h3.block N hk.lt (h1.not hk ht)⟩
theorem hput {w : World} {S slots : Nat} {V : Vw} (e : Int) (c : Cl) (a : A4) (W : World) (h : Hd w W S slots V) (hk : c.k.size ≤ 9223372036854775807) (ha : fit4 a) :
    Calls Tryd.prog 9 #[.pointer (some ⟨S, 0, none⟩), .int .i64 e, .agg #[.int .i64 c.v, .string c.k, .int .i64 c.s, .int .i64 a.c, .int .i64 a.s, .int .i64 a.m, .int .i64 a.x]] W fun r w' => r = .returned (.int .i64 (putErr V slots e c a)) ∧ Hd w w' S slots (putS V slots e c a) ∧ Kp W w' := by
  obtain ⟨X, h1⟩ := h.sh
  refine (put_any e c a W h1 hk ha).mono ?_
  rintro r w' ⟨rfl, X', h2, h3, _⟩
  exact ⟨rfl, ⟨⟨X', h2⟩, h.fr.trans2 h3 (fun i hi hx => by have := h1.lo i hx; omega)⟩, h3.size, fun N t hk ht => h3.block N hk.lt (h1.not hk ht)⟩
/-- New, amid a law. -/
theorem hnew {w : World} (n : Int) (h2 : 2 ≤ n) (h3 : n ≤ 1048576) (hg : Gl w) :
    Calls Tryd.prog 4 #[.int .i64 n] w fun r w' => ∃ S, r = .returned (.tuple #[.pointer (some ⟨S, 0, none⟩), .int .i64 0]) ∧ Hd w w' S n.toNat [] := by
  refine (new_any n w hg).mono ?_
  rintro r w' ⟨hf, h⟩
  rw [if_neg (by omega)] at h
  obtain ⟨S, X, rfl, h⟩ := h
  exact ⟨S, rfl, ⟨X, h⟩, hf⟩

set_option maxHeartbeats 4000000 in
set_option maxRecDepth 100000 in
theorem head_any (w : World) (hg : Gl w) : Calls Tryd.prog 11 #[] w fun r w' => r = .returned (.bool true) ∧ Fr w w' (fun _ => False) := by
  have hbn := sh_nil
  have HN := hid (hnew 6 (by decide) (by decide) hg)
  have HP1 := hid (fun (W : World) (S : Nat) (h : Hd w W S 6 []) => hput 1 cA (oneA 5) W h (by decide) (oneA_fit (by unfold fits; decide)))
  have HP2 := hid (fun (W : World) (S : Nat) (h : Hd w W S 6 [(cA, L1)]) => hput 2 cA (oneA 6) W h (by decide) (oneA_fit (by unfold fits; decide)))
  rw [head1.1, head1.2] at HP1
  rw [head2.1, head2.2] at HP2
  have HU := hid (fun (W : World) (S : Nat) (h : Hd w W S 6 [(cA, L2)]) => (show Calls Tryd.prog 26 #[.pointer (some ⟨S, 0, none⟩)] W fun r w' => r = .returned (.int .i64 3) ∧ Fr W w' (fun _ => False) from by
    obtain ⟨X, h1⟩ := h.sh
    have := unitsS_any W h1
    rw [head3.1] at this
    exact this))
  have HCe := hid (fun (W : World) (S : Nat) (h : Hd w W S 6 [(cA, L2)]) => (show Calls Tryd.prog 27 #[.pointer (some ⟨S, 0, none⟩)] W fun r w' => r = .returned (.int .i64 1) ∧ w' = W from by
    obtain ⟨X, h1⟩ := h.sh
    have := cellsS_any W h1
    rw [head3.2.1] at this
    exact this))
  have HMo := hid (fun (W : World) (S : Nat) (h : Hd w W S 6 [(cA, L2)]) => (show Calls Tryd.prog 28 #[.pointer (some ⟨S, 0, none⟩)] W fun r w' => r = .returned (.int .i64 2) ∧ w' = W from by
    obtain ⟨X, h1⟩ := h.sh
    have := mostS_any W h1
    rw [head3.2.2.1] at this
    exact this))
  have HGe := hid (fun (W : World) (S : Nat) (h : Hd w W S 6 [(cA, L2)]) => (show Calls Tryd.prog 8 #[.pointer (some ⟨S, 0, none⟩), .agg #[.int .i64 0, .string ⟨#[97]⟩, .int .i64 0]] W fun r w' => r = .returned (.agg #[.int .i64 1, .int .i64 6, .int .i64 6, .int .i64 6]) ∧ Fr W w' (fun _ => False) from by
    obtain ⟨X, h1⟩ := h.sh
    have := get_any cA W h1 (by decide)
    rw [head3.2.2.2.1] at this
    exact this))
  have HAt := hid (fun (W : World) (S : Nat) (h : Hd w W S 6 [(cA, L2)]) => (show Calls Tryd.prog 10 #[.pointer (some ⟨S, 0, none⟩), .agg #[.int .i64 0, .string ⟨#[97]⟩, .int .i64 0], .int .i64 1] W fun r w' => r = .returned (.agg #[.int .i64 1, .int .i64 5, .int .i64 5, .int .i64 5]) ∧ Fr W w' (fun _ => False) from by
    obtain ⟨X, h1⟩ := h.sh
    have := at_any cA 1 W h1 (by decide)
    rw [head3.2.2.2.2] at this
    exact this))
  unfold oneA at HP1 HP2
  rw [show cA.v = 0 from rfl, show cA.k = ⟨#[97]⟩ from rfl, show cA.s = 0 from rfl] at HP1 HP2
  dsimp only at HP1 HP2
  go_enter Tryd.func11, Tryd.ntmps11
  go_wp2_with fail
  refine HN.out.mono ?_
  rintro r w1 ⟨S, rfl, h1⟩
  have H1 := hid (show Hd w w1 S 6 [] from h1)
  clear h1 HN
  go_wp2_with fail
  have H2 := hid (H1.out.step (alloc_fr w1 (.cells #[.int .i64 0, .string ⟨#[97]⟩, .int .i64 0] 23) (fun _ => False)))
  have HB := hid (heap_last w1 (.cells #[.int .i64 0, .string ⟨#[97]⟩, .int .i64 0] 23) _ rfl)
  generalize w1.alloc (.cells #[.int .i64 0, .string ⟨#[97]⟩, .int .i64 0] 23) = w2 at *
  have HK := hid (fun (W' : World) (hk : Kp w2 W') => cells3 (hk.block HB.out (by unfold okT; decide)))
  obtain ⟨k0, k1, k2⟩ := HK.out w2 (Kp.refl _)
  have hbl := lt_of_block HB.out
  have HF := hid (Fr.refl w2 (fun _ => False))
  have HKp := hid (Kp.refl w2)
  go_region_held3 (fun W' => Hid (Kp w2 W') ∧ W'.cell? ⟨w1.heap.size, 0, none⟩ = some (.int .i64 0) ∧ W'.cell? ⟨w1.heap.size, 1, none⟩ = some (.string ⟨#[97]⟩) ∧ W'.cell? ⟨w1.heap.size, 2, none⟩ = some (.int .i64 0))
    ((refine (fun h => ⟨h, HK.out _ h⟩ : Kp w2 _ → _) ?_; first | exact HKp.out | exact Kp.of (by repeat (first | with_reducible exact HF.out | with_reducible exact Fr.refl _ _ | with_reducible apply Fr.drew | with_reducible apply Fr.alloc))))
    ((first
      | (go_at_call 25; refine (one_any 5 _).mono ?_; rintro r w3 ⟨rfl, hf⟩; have HF := hid (Fr.trans (a := w2) (by repeat (first | with_reducible exact HF.out | with_reducible exact Fr.refl _ _ | with_reducible apply Fr.drew | with_reducible apply Fr.alloc)) hf); have HKp := hid (Kp.of HF.out); clear hf)
      | (go_at_call 9; refine (HP1.out _ S (H2.out.step (by repeat (first | with_reducible exact HF.out | with_reducible exact Fr.refl _ _ | with_reducible apply Fr.drew | with_reducible apply Fr.alloc)))).mono ?_; rintro r w4 ⟨rfl, h4, hk4⟩; have H4 := hid h4; have HKp := hid ((Kp.of HF.out).trans ((Kp.of (by repeat (first | with_reducible exact Fr.refl _ _ | with_reducible apply Fr.drew))).trans hk4)); clear h4 hk4)))
  obtain ⟨k0, k1, k2⟩ := HK.out _ HKp.out
  have hbl4 := Nat.lt_of_lt_of_le hbl HKp.out.1
  have HF := hid (Fr.refl w4 (fun _ => False))
  have HK4 := HKp
  have HK2 := hid (fun (W' : World) (hk : Kp w4 W') => HK.out W' (HK4.out.trans hk))
  have HKp := hid (Kp.refl w4)
  go_wp2_with fail
  go_region_held3 (fun W' => Hid (Kp w4 W') ∧ W'.cell? ⟨w1.heap.size, 0, none⟩ = some (.int .i64 0) ∧ W'.cell? ⟨w1.heap.size, 1, none⟩ = some (.string ⟨#[97]⟩) ∧ W'.cell? ⟨w1.heap.size, 2, none⟩ = some (.int .i64 0))
    ((refine (fun h => ⟨h, HK2.out _ h⟩ : Kp w4 _ → _) ?_; first | exact HKp.out | exact Kp.of (by repeat (first | with_reducible exact HF.out | with_reducible exact Fr.refl _ _ | with_reducible apply Fr.drew | with_reducible apply Fr.alloc))))
    ((first
      | (go_at_call 25; refine (one_any 6 _).mono ?_; rintro r w5 ⟨rfl, hf⟩; have HF := hid (Fr.trans (a := w4) (by repeat (first | with_reducible exact HF.out | with_reducible exact Fr.refl _ _ | with_reducible apply Fr.drew | with_reducible apply Fr.alloc)) hf); have HKp := hid (Kp.of HF.out); clear hf)
      | (go_at_call 9; refine (HP2.out _ S (H4.out.step (by repeat (first | with_reducible exact HF.out | with_reducible exact Fr.refl _ _ | with_reducible apply Fr.drew | with_reducible apply Fr.alloc)))).mono ?_; rintro r w6 ⟨rfl, h6, hk6⟩; have H6 := hid h6; have HKp := hid ((Kp.of HF.out).trans ((Kp.of (by repeat (first | with_reducible exact Fr.refl _ _ | with_reducible apply Fr.drew))).trans hk6)); clear h6 hk6)))
  obtain ⟨k0, k1, k2⟩ := HK2.out _ HKp.out
  have hbl6 := Nat.lt_of_lt_of_le hbl4 HKp.out.1
  have HK6 := hid (fun (W' : World) (hf : Fr w6 W' (fun _ => False)) => HK2.out W' (HKp.out.trans (Kp.of hf)))
  clear HP1 HP2 HK HK4
  go_wp2_with fail
  refine (HU.out _ S H6.out).mono ?_
  rintro r w7 ⟨rfl, hf⟩
  have HF := hid hf
  clear hf
  go_wp2_with fail
  refine (HCe.out _ S (H6.out.step HF.out)).mono ?_
  rintro r w8 ⟨rfl, hw⟩
  have hw := hw.symm
  subst hw
  go_wp2_with fail
  refine (HMo.out _ S (H6.out.step HF.out)).mono ?_
  rintro r w8 ⟨rfl, hw⟩
  have hw := hw.symm
  subst hw
  obtain ⟨k0, k1, k2⟩ := HK6.out _ HF.out
  have hbl7 := Nat.lt_of_lt_of_le hbl6 HF.out.size
  go_wp2_with fail
  refine (HGe.out _ S (H6.out.step HF.out)).mono ?_
  rintro r w8 ⟨rfl, hf⟩
  have HF := hid (HF.out.trans hf)
  clear hf
  go_wp2_with fail
  refine (one_any 6 _).mono ?_
  rintro r w9 ⟨rfl, hf⟩
  have HF := hid (HF.out.trans hf)
  clear hf
  obtain ⟨k0, k1, k2⟩ := HK6.out _ HF.out
  have hbl9 := Nat.lt_of_lt_of_le hbl6 HF.out.size
  go_wp2_with fail
  refine (HAt.out _ S (H6.out.step HF.out)).mono ?_
  rintro r w10 ⟨rfl, hf⟩
  have HF := hid (HF.out.trans hf)
  clear hf
  go_wp2_with fail
  refine (one_any 5 _).mono ?_
  rintro r w11 ⟨rfl, hf⟩
  have HF := hid (HF.out.trans hf)
  clear hf
  go_wp2_with fail
  go_ret
  exact ⟨rfl, H6.out.fr.trans HF.out⟩
end Go.Proofs.YtcjadgnefojjgabDoor.S
