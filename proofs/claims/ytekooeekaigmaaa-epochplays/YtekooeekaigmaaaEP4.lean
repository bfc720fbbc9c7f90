/- The document's book: stores; loose, Seal, Inner: walks. -/
import Derived.Test.YtekooeekaigmaaaEP3
namespace Go.Proofs.Ytekooeekaigmaaa.E
open Go.RowKit Go.Maps Go.MuLone

theorem OwI.poke {w : World} {base k p : Nat} {v u : Value} {l : List Int} (h : OwI w base v l) (hk : k < base) : OwI (w.setCell ⟨k, p, none⟩ u) base v l :=
  h.fr (fr_poke w k p u) (fun j hj e => by have := (World.ownsRow.lt h j hj).1; omega)
/-- The document's book's own blocks. -/
def RS (C S I k : Nat) : Prop := k = C ∨ k = S ∨ k = I
def Rl (w w' : World) (C S I base : Nat) (b : Bo) (die : List Int) : Prop := (∃ sv vD vW, Rb w' C S I base sv vD vW b die) ∧ Fr w w' (RS C S I)
theorem Rb.drew {w : World} {C S I base : Nat} {sv : Nat → Value} {vD vW : Value} {b : Bo} {die : List Int} (h : Rb w C S I base sv vD vW b die) : Rb w.drew C S I base sv vD vW b die := h.step ((Fr.refl _ _).drew)
theorem Fr.ofDrewS {w w' : World} {C S I : Nat} (h : Fr w w' (fun _ => False)) : Fr w w' (RS C S I) := h.mono (fun _ _ h => h.elim)
section
variable {w : World} {C S I base : Nat} {sv : Nat → Value} {vD vW : Value} {b : Bo} {die : List Int}
theorem Rb.pokeC (h : Rb w C S I base sv vD vW b die) {p : Nat} {u : Value} {vD' vW' : Value} {b' : Bo} {die' : List Int}
    (hc : (#[.int .i64 b.pins, .int .i64 b.now, .slice (some ⟨S, 0, none⟩) 65 65, .slice (some ⟨I, 0, none⟩) 65 65, vD, vW, .bool b.begun] : Array Value).setIfInBounds p u = #[.int .i64 b'.pins, .int .i64 b'.now, .slice (some ⟨S, 0, none⟩) 65 65, .slice (some ⟨I, 0, none⟩) 65 65, vD', vW', .bool b'.begun])
    (hi : b'.inn = b.inn) (hs : ∀ i, i < 65 → b'.sets i = b.sets i) (hD : OwI w base vD' die') (hW : OwI w base vW' (b'.sets 66)) : Rb (w.setCell ⟨C, p, none⟩ u) C S I base sv vD' vW' b' die' := by
  have hf := fr_poke w C p u
  refine ⟨?_, (hf.block S (lt_of_block h.sc) (fun e => h.ne.1 e.symm)).trans h.sc, ?_, fun i hi' => ?_, hD.poke h.lo.1, hW.poke h.lo.1, ⟨h.lo.1, h.lo.2.1, h.lo.2.2.1, Nat.le_trans h.lo.2.2.2 hf.size⟩, h.ne, ?_⟩
  · rw [heap_setCell_same w C p _ _ u h.cell, hc]
  · rw [hi]
    exact (hf.block I (lt_of_block h.ic) (fun e => h.ne.2.1 e.symm)).trans h.ic
  · rw [hs i hi']
    exact (h.so i hi').poke h.lo.1
  · rw [hs 0 (by omega), hi]
    exact h.z
theorem Rb.pokeS (h : Rb w C S I base sv vD vW b die) {o : Nat} (ho : o < 65) (hz : o ≠ 0) {u : Value} {l : List Int} (hu : OwI w base u l) : Rb (w.setCell ⟨S, o, none⟩ u) C S I base (upd sv o u) vD vW { b with sets := upd b.sets o l } die := by
  have hf := fr_poke w S o u
  refine ⟨(hf.block C (lt_of_block h.cell) (fun e => h.ne.1 e)).trans h.cell, ?_, (hf.block I (lt_of_block h.ic) (fun e => h.ne.2.2 e.symm)).trans h.ic, fun i hi => ?_, h.dO.poke h.lo.2.1, ?_, ⟨h.lo.1, h.lo.2.1, h.lo.2.2.1, Nat.le_trans h.lo.2.2.2 hf.size⟩, h.ne, ?_⟩
  · rw [heap_setCell_same w S o _ _ u h.sc, rowA_set ho]
  · dsimp only
    by_cases e : i = o
    · subst e
      rw [upd_same, upd_same]
      exact hu.poke h.lo.2.1
    · rw [upd_other _ _ e, upd_other _ _ e]
      exact (h.so i hi).poke h.lo.2.1
  · dsimp only
    rw [upd_other _ _ (by omega)]
    exact h.wO.poke h.lo.2.1
  · dsimp only
    rw [upd_other _ _ (fun e => hz e.symm)]
    exact h.z
theorem Rb.pokeI (h : Rb w C S I base sv vD vW b die) {o : Nat} (ho : o < 65) (hz : o ≠ 0) (x : Int) : Rb (w.setCell ⟨I, o, none⟩ (.int .i64 x)) C S I base sv vD vW { b with inn := upd b.inn o x } die := by
  have hf := fr_poke w I o (.int .i64 x)
  refine ⟨(hf.block C (lt_of_block h.cell) (fun e => h.ne.2.1 e)).trans h.cell, (hf.block S (lt_of_block h.sc) (fun e => h.ne.2.2 e)).trans h.sc, ?_, fun i hi => (h.so i hi).poke h.lo.2.2.1, h.dO.poke h.lo.2.2.1, h.wO.poke h.lo.2.2.1, ⟨h.lo.1, h.lo.2.1, h.lo.2.2.1, Nat.le_trans h.lo.2.2.2 hf.size⟩, h.ne, ?_⟩
  · rw [heap_setCell_same w I o _ _ _ h.ic, rowA_set ho]
    congr 2
    congr 1
    funext i
    by_cases e : i = o
    · subst e; rw [upd_same]; dsimp only; rw [upd_same]
    · rw [upd_other _ _ e]; dsimp only; rw [upd_other _ _ e]
  · dsimp only
    rw [upd_other _ _ (fun e => hz e.symm)]
    exact h.z
theorem Rb.freeC (h : Rb w C S I base sv vD vW b die) (p : Nat) : w.frozen? ⟨C, p, none⟩ = false := by simp [World.frozen?, h.cell]
theorem Rb.freeS (h : Rb w C S I base sv vD vW b die) (p : Nat) : w.frozen? ⟨S, p, none⟩ = false := by simp [World.frozen?, h.sc]
theorem Rb.freeI (h : Rb w C S I base sv vD vW b die) (p : Nat) : w.frozen? ⟨I, p, none⟩ = false := by simp [World.frozen?, h.ic]

/-- An epoch that one owner let go. -/
def looseD (b : Bo) (die : List Int) (e : Int) : List Int := if hasB (heldL b) e then die else ins e die
set_option maxHeartbeats 2000000 in
set_option maxRecDepth 100000 in
theorem rloose_any (h : Rb w C S I base sv vD vW b die) (hw : Wf b) (hd : die.length ≤ 4398046511000) (e : Int) :
    Calls Try.prog 66 #[.pointer (some ⟨C, 0, none⟩), .int .i64 e] w fun x w' => x = .returned (.tuple #[]) ∧ Rl w w' C S I base b (looseD b die e) := by
  have H := hid h
  clear h
  go_enter Try.func66, Try.ntmps66
  go_wp2_with fail
  refine (rheld_any H.out hw).mono ?_
  rintro x w1 ⟨v1, rfl, ho, hf⟩
  have HF := hid hf
  have HO := hid ho
  clear hf ho
  go_wp2_with fail
  refine (Has_any HO.out e).mono ?_
  rintro x w2 ⟨rfl, rfl⟩
  have HR := hid (H.out.step HF.out)
  have HFs := hid (HF.out.mono (fun _ _ h => h.elim) : Fr w w2 (RS C S I))
  cases hh : hasB (heldL b) e with
  | true =>
    have HE := hid (show looseD b die e = die by unfold looseD; rw [if_pos hh])
    clear hh
    go_wp2_with fail
    go_end0
    rw [HE.out]
    exact ⟨rfl, ⟨_, _, _, HR.out⟩, HFs.out⟩
  | false =>
    have HE := hid (show looseD b die e = ins e die by unfold looseD; rw [if_neg (by simp [hh])])
    clear hh HO
    obtain ⟨_, _, _, _, x4, _, _⟩ := HR.out.cells
    have lC := lt_of_block HR.out.cell
    go_wp2_with fail
    refine (With_any HR.out.dO hd e).mono ?_
    rintro x w3 ⟨v3, rfl, ho, hf⟩
    obtain ⟨a3, c3, rfl, _, _⟩ := ho.at
    have HR3 := hid (HR.out.step hf)
    have HO3 := hid (ho.mono HR.out.lo.2.2.2)
    have HF3 := hid (HFs.out.trans (hf.mono (fun _ _ h => h.elim)))
    clear ho hf x4 lC
    obtain ⟨_, _, _, _, x4, _, _⟩ := HR3.out.cells
    have lC := lt_of_block HR3.out.cell
    have f4 := HR3.out.freeC 4
    go_wp2_with fail
    go_end0
    rw [HE.out]
    exact ⟨rfl, ⟨_, _, _, HR3.out.pokeC (vD' := .slice a3 (ins e die).length c3) (die' := ins e die) (b' := b) rfl rfl (fun _ _ => rfl) HO3.out HR3.out.wO⟩, HF3.out.setCell (p := ⟨C, 4, none⟩) (fun _ => Or.inl rfl) _⟩

theorem may_err {o : Int} (h : may o = true) : o.toNat < 65 ∧ o.toNat ≠ 0 ∧ (o.toNat : Int) = o := by
  have := may_true h
  omega
set_option maxHeartbeats 2000000 in
set_option maxRecDepth 100000 in
theorem rseal_any (h : Rb w C S I base sv vD vW b die) (hw : Wf b) (o : Int) :
    Calls Try.prog 36 #[.pointer (some ⟨C, 0, none⟩), .int .i64 o] w fun x w' => x = .returned (.tuple #[.int .i64 (sealN b o), .int .i64 (sealErr b o)]) ∧ Rl w w' C S I base (sealB b o) die := by
  have H := hid h
  have hR0 : Rl w w C S I base b die := ⟨⟨_, _, _, h⟩, Fr.refl _ _⟩
  have HR0 := hid hR0
  clear h hR0
  go_enter Try.func36, Try.ntmps36
  go_wp2_with fail
  refine (owner_any o _).mono ?_
  rintro x w1 ⟨rfl, rfl⟩
  cases hm0 : may o with
  | false =>
    have e0 : sealErr b o = 1 := by unfold sealErr; rw [if_pos hm0]
    have E0 := hid e0
    have E1 := hid (show sealN b o = 0 by unfold sealN; rw [if_neg (by omega)])
    have E2 := hid (show sealB b o = b by unfold sealB; rw [if_neg (by omega)])
    clear e0 hm0
    go_wp2_with fail
    go_ret2
    rw [E0.out, E1.out, E2.out]
    exact ⟨rfl, HR0.out⟩
  | true =>
    obtain ⟨o1, o2, o3⟩ := may_err hm0
    have HM := hid hm0
    obtain ⟨k, hk⟩ : ∃ k : Nat, k = o.toNat := ⟨_, rfl⟩
    rw [← hk] at o1 o2 o3
    have HK := hid hk
    subst o3
    clear hk hm0
    obtain ⟨x0, x1, x2, _, _, _, _⟩ := H.out.cells
    have xs := H.out.s o1
    obtain ⟨a1, c1, e1, _, _⟩ := (H.out.so k o1).at
    rw [e1] at xs
    have lC := lt_of_block H.out.cell
    have lS := lt_of_block H.out.sc
    have hnow := hw.now
    have hpin := hw.pins
    have hfew := hw.few k o1
    have k1 : (k : Int) < 65 := by omega
    by_cases hp : b.pins ≤ ((b.sets k).length : Int)
    · have e0 : sealErr b (k : Int) = 34 := by unfold sealErr; rw [if_neg (by simp [HM.out]), if_pos (by simpa using hp)]
      have E0 := hid e0
      have E1 := hid (show sealN b (k : Int) = 0 by unfold sealN; rw [if_neg (by omega)])
      have E2 := hid (show sealB b (k : Int) = b by unfold sealB; rw [if_neg (by omega)])
      have hd : decide (b.pins ≤ ((b.sets k).length : Int)) = true := decide_eq_true hp
      clear e0
      go_wp2_with fail
      go_big_quiet (fail)
      go_wp2_with fail
      go_ret2
      rw [E0.out, E1.out, E2.out]
      exact ⟨rfl, HR0.out.1.imp (fun _ h => h.imp (fun _ h => h.imp (fun _ h => h.step ((Fr.refl _ _).drewN _)))), HR0.out.2.drewN _⟩
    · have hd : decide (b.pins ≤ ((b.sets k).length : Int)) = false := decide_eq_false hp
      have hR1 := fun n => H.out.step ((Fr.refl w1 (fun _ => False)).drewN n)
      by_cases hn : 1099511627776 ≤ b.now
      · have e0 : sealErr b (k : Int) = 2 := by unfold sealErr; rw [if_neg (by simp [HM.out]), if_neg (by simpa using hp), if_pos hn]
        have E0 := hid e0
        have E1 := hid (show sealN b (k : Int) = 0 by unfold sealN; rw [if_neg (by omega)])
        have E2 := hid (show sealB b (k : Int) = b by unfold sealB; rw [if_neg (by omega)])
        clear e0 hR1
        go_wp2_with fail
        go_big_quiet (fail)
        go_wp2_with fail
        go_ret2
        rw [E0.out, E1.out, E2.out]
        exact ⟨rfl, HR0.out.1.imp (fun _ h => h.imp (fun _ h => h.imp (fun _ h => h.step ((Fr.refl _ _).drewN _)))), HR0.out.2.drewN _⟩
      · have e0 : sealErr b (k : Int) = 0 := by unfold sealErr; rw [if_neg (by simp [HM.out]), if_neg (by simpa using hp), if_neg hn]
        have E0 := hid e0
        have E1 := hid (show sealN b (k : Int) = b.now by unfold sealN; rw [if_pos e0])
        have E2 := hid (show sealB b (k : Int) = { b with sets := upd b.sets k (ins b.now (b.sets k)), now := b.now + 1 } by unfold sealB; rw [if_pos e0, Int.toNat_natCast])
        clear e0
        go_wp2_with fail
        go_big_quiet (fail)
        have HR := hid (hR1 nq)
        have HFq := hid ((Fr.refl w1 (RS C S I)).drewN nq)
        clear hR1 x0 x1 x2 xs
        obtain ⟨_, x1, _, _, _, _, _⟩ := HR.out.cells
        go_wp2_with fail
        clear x1
        have HSV := hid e1
        have HO1 := hid o1
        have HLn := hid (show (b.sets k).length ≤ 4398046511000 by omega)
        have HHd : Hid (∀ W', Rb W' C S I base sv vD vW b die → W'.cell? ⟨C, 2, none⟩ = some (.slice (some ⟨S, 0, none⟩) 65 65) ∧ W'.cell? ⟨S, k, none⟩ = some (.slice a1 (b.sets k).length c1) ∧ W'.frozen? ⟨S, k, none⟩ = false ∧ S < W'.heap.size ∧ C < W'.heap.size) := fun W' hr => by
          refine ⟨hr.cells.2.2.1, ?_, hr.freeS k, lt_of_block hr.sc, lt_of_block hr.cell⟩
          rw [← HSV.out]
          exact hr.s HO1.out
        have HWc : Hid (∀ W', Rb W' C S I base sv vD vW b die → Calls Try.prog 64 #[.slice a1 (b.sets k).length c1, .int .i64 b.now] W' fun e w' => ∃ a3 c3, e = .returned (.slice a3 (ins b.now (b.sets k)).length c3) ∧ OwI w' base (.slice a3 (ins b.now (b.sets k)).length c3) (ins b.now (b.sets k)) ∧ Rb w' C S I base sv vD vW b die ∧ Fr W' w' (fun _ => False)) := fun W' hr => by
          have ho := hr.so k HO1.out
          rw [HSV.out] at ho
          refine (With_any ho HLn.out b.now).mono ?_
          rintro e w' ⟨v', rfl, ho', hf⟩
          obtain ⟨a3, c3, rfl, _, _⟩ := ho'.at
          exact ⟨a3, c3, rfl, ho'.mono hr.lo.2.2.2, hr.step hf, hf⟩
        generalize w1.drewN nq = wq at *
        clear lC lS
        go_cut [] (fun wx => Hid (∃ sv', Rb wx C S I base sv' vD vW { b with sets := upd b.sets k (ins b.now (b.sets k)) } die) ∧ Hid (Fr w1 wx (RS C S I)))
        case first =>
          generalize (ins b.now (b.sets k)).length = LN at *
          obtain ⟨y1, y2, y3, y4, y5⟩ := HHd.out _ HR.out
          go_region_with (go_at_call 64; with_reducible refine (HWc.out _ (by first | with_reducible exact HR.out | with_reducible exact Rb.drew HR.out | with_reducible exact Rb.drew (Rb.drew HR.out))).mono ?_; rintro xe w10 ⟨a3, c3, rfl, ho, hr, hf⟩; have HO3 := hid ho; have HFq := hid (show Fr w1 w10 (RS C S I) from HFq.out.trans (Fr.ofDrewS (by first | exact hf | exact Fr.ofDrew hf | exact Fr.ofDrew (Fr.ofDrew hf)))); have HR := hid hr; obtain ⟨z1, z2, z3, z4, z5⟩ := HHd.out _ hr; clear ho hf hr)
          all_goals (go_wp2_with fail)
          all_goals go_meet
          all_goals first
            | exact ⟨⟨_, HR.out.pokeS HO1.out o2 HO3.out⟩, HFq.out.setCell (p := ⟨S, k, none⟩) (fun _ => Or.inr (Or.inl rfl)) _⟩
            | exact ⟨⟨_, HR.out.drew.pokeS HO1.out o2 HO3.out⟩, HFq.out.drew.setCell (p := ⟨S, k, none⟩) (fun _ => Or.inr (Or.inl rfl)) _⟩
        case rest =>
          obtain ⟨HRx, HFx⟩ := hcut
          obtain ⟨sv', hr⟩ := HRx.out
          have HRy := hid hr
          obtain ⟨_, x1, _, _, _, _, _⟩ := hr.cells
          have lC := lt_of_block hr.cell
          have f1 := hr.freeC 1
          dsimp only at x1
          clear hr
          go_wp2_with fail
          go_ret2
          rw [E0.out, E1.out, E2.out]
          exact ⟨rfl, ⟨_, _, _, HRy.out.pokeC (b' := { b with sets := upd b.sets k (ins b.now (b.sets k)), now := b.now + 1 }) rfl rfl (fun _ _ => rfl) HRy.out.dO HRy.out.wO⟩, HFx.out.setCell (p := ⟨C, 1, none⟩) (fun _ => Or.inl rfl) _⟩
end
end Go.Proofs.Ytekooeekaigmaaa.E
