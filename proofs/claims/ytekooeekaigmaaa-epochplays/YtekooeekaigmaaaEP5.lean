/- The document's Inner, Holds, Done: walks. -/
import Derived.Test.YtekooeekaigmaaaEP4
namespace Go.Proofs.Ytekooeekaigmaaa.E
open Go.RowKit Go.Maps Go.MuLone
section
variable {w : World} {C S I base : Nat} {sv : Nat → Value} {vD vW : Value} {b : Bo} {die : List Int}

set_option maxHeartbeats 2000000 in
set_option maxRecDepth 100000 in
theorem rinner_any (h : Rb w C S I base sv vD vW b die) (hw : Wf b) (o : Int) :
    Calls Try.prog 38 #[.pointer (some ⟨C, 0, none⟩), .int .i64 o] w fun x w' => x = .returned (.tuple #[.int .i64 (innN b o), .int .i64 (innErr b o)]) ∧ Rl w w' C S I base (innB b o) die := by
  have H := hid h
  have hR0 : Rl w w C S I base b die := ⟨⟨_, _, _, h⟩, Fr.refl _ _⟩
  have HR0 := hid hR0
  clear h hR0
  go_enter Try.func38, Try.ntmps38
  go_wp2_with fail
  refine (owner_any o _).mono ?_
  rintro x w1 ⟨rfl, rfl⟩
  cases hm0 : may o with
  | false =>
    have e0 : innErr b o = 1 := by unfold innErr; rw [if_pos hm0]
    have E0 := hid e0
    have E1 := hid (show innN b o = 0 by unfold innN; rw [if_neg (by omega)])
    have E2 := hid (show innB b o = b by unfold innB; rw [if_neg (by omega)])
    clear e0 hm0
    go_wp2_with fail
    go_ret2
    rw [E0.out, E1.out, E2.out]
    exact ⟨rfl, HR0.out⟩
  | true =>
    obtain ⟨o1, o2, o3⟩ := may_err hm0
    have HM := hid hm0
    obtain ⟨k, hk⟩ : ∃ k : Nat, k = o.toNat := ⟨_, rfl⟩
    rw [← hk] at o1 o2 o3
    subst o3
    clear hk hm0
    obtain ⟨x0, x1, x2, x3, _, _, _⟩ := H.out.cells
    have xi := H.out.i o1
    have lC := lt_of_block H.out.cell
    have lI := lt_of_block H.out.ic
    have hnow := hw.now
    have k1 : (k : Int) < 65 := by omega
    by_cases hz : b.inn k = 0
    · rw [hz] at xi
      by_cases hn : 1099511627776 ≤ b.now
      · have e0 : innErr b (k : Int) = 2 := by unfold innErr; rw [if_neg (by simp [HM.out]), if_neg (by simpa using hz), if_pos hn]
        have E0 := hid e0
        have E1 := hid (show innN b (k : Int) = 0 by unfold innN; rw [if_neg (by omega)])
        have E2 := hid (show innB b (k : Int) = b by unfold innB; rw [if_neg (by omega)])
        clear e0
        go_wp2_with fail
        go_ret2
        rw [E0.out, E1.out, E2.out]
        exact ⟨rfl, HR0.out⟩
      · have e0 : innErr b (k : Int) = 0 := by unfold innErr; rw [if_neg (by simp [HM.out]), if_neg (by simpa using hz), if_neg hn]
        have E0 := hid e0
        have E1 := hid (show innN b (k : Int) = b.now by unfold innN; rw [if_pos e0])
        have E2 := hid (show innB b (k : Int) = { b with inn := upd b.inn k b.now, now := b.now + 1 } by unfold innB; rw [if_pos e0, Int.toNat_natCast])
        have HRy := hid (H.out.pokeI o1 o2 b.now)
        have hfi := H.out.freeI k
        have y1 := HRy.out.cells.2.1
        have yf := HRy.out.freeC 1
        have yC := lt_of_block HRy.out.cell
        dsimp only at y1
        clear e0
        go_wp2_with fail
        go_ret2
        rw [E0.out, E1.out, E2.out]
        exact ⟨rfl, ⟨_, _, _, HRy.out.pokeC (b' := { b with inn := upd b.inn k b.now, now := b.now + 1 }) rfl rfl (fun _ _ => rfl) HRy.out.dO HRy.out.wO⟩, ((Fr.refl _ _).setCell (p := ⟨I, k, none⟩) (fun _ => Or.inr (Or.inr rfl)) _).setCell (p := ⟨C, 1, none⟩) (fun _ => Or.inl rfl) _⟩
    · have e0 : innErr b (k : Int) = 43 := by unfold innErr; rw [if_neg (by simp [HM.out]), if_pos (by simpa using hz)]
      have E0 := hid e0
      have E1 := hid (show innN b (k : Int) = 0 by unfold innN; rw [if_neg (by omega)])
      have E2 := hid (show innB b (k : Int) = b by unfold innB; rw [if_neg (by omega)])
      have d1 : (b.inn k != 0) = true := by simp [hz]
      clear e0
      go_wp2_with fail
      go_ret2
      rw [E0.out, E1.out, E2.out]
      exact ⟨rfl, HR0.out⟩

set_option maxHeartbeats 2000000 in
set_option maxRecDepth 100000 in
theorem rholds_any (h : Rb w C S I base sv vD vW b die) (o e : Int) :
    Calls Try.prog 16 #[.pointer (some ⟨C, 0, none⟩), .int .i64 o, .int .i64 e] w fun x w' => x = .returned (.bool (holdsB b o e)) ∧ Fr w w' (fun _ => False) := by
  have H := hid h
  clear h
  go_enter Try.func16, Try.ntmps16
  go_wp2_with fail
  refine (owner_any o _).mono ?_
  rintro x w1 ⟨rfl, rfl⟩
  cases hm0 : may o with
  | false =>
    have E0 := hid (show holdsB b o e = false by unfold holdsB; rw [hm0]; rfl)
    clear hm0
    go_wp2_with fail
    go_ret
    rw [E0.out]
    exact ⟨rfl, Fr.refl _ _⟩
  | true =>
    have E0 := hid (show holdsB b o e = hasB (b.sets o.toNat) e by unfold holdsB; rw [hm0]; rfl)
    obtain ⟨o1, o2, o3⟩ := may_err hm0
    obtain ⟨k, hk⟩ : ∃ k : Nat, k = o.toNat := ⟨_, rfl⟩
    rw [← hk] at o1 o2 o3 E0
    subst o3
    clear hk hm0
    obtain ⟨x0, x1, x2, x3, _, _, _⟩ := H.out.cells
    have xs := H.out.s o1
    have HO := hid (H.out.so k o1)
    obtain ⟨a1, c1, e1, _, _⟩ := HO.out.at
    rw [e1] at xs HO
    have lC := lt_of_block H.out.cell
    have lS := lt_of_block H.out.sc
    have k1 : (k : Int) < 65 := by omega
    go_wp2_with fail
    refine (Has_any HO.out e).mono ?_
    rintro x w2 ⟨rfl, rfl⟩
    go_wp2_with fail
    go_ret
    rw [E0.out]
    exact ⟨rfl, Fr.refl _ _⟩

/-- Done, as the document has it. -/
def doneR (b : Bo) (o : Int) : Bo := if doneErr b o = 0 then { b with inn := upd b.inn o.toNat 0 } else b
def doneD (b : Bo) (die : List Int) (o : Int) : List Int := if doneErr b o = 0 then looseD { b with inn := upd b.inn o.toNat 0 } die (b.inn o.toNat) else die
set_option maxHeartbeats 2000000 in
set_option maxRecDepth 100000 in
theorem rdone_any (h : Rb w C S I base sv vD vW b die) (hw : Wf b) (hd : die.length ≤ 4398046511000) (o : Int) :
    Calls Try.prog 42 #[.pointer (some ⟨C, 0, none⟩), .int .i64 o] w fun x w' => x = .returned (.int .i64 (doneErr b o)) ∧ Rl w w' C S I base (doneR b o) (doneD b die o) := by
  have H := hid h
  have HW := hid hw
  have hR0 : Rl w w C S I base b die := ⟨⟨_, _, _, h⟩, Fr.refl _ _⟩
  have HR0 := hid hR0
  clear h hR0
  go_enter Try.func42, Try.ntmps42
  go_wp2_with fail
  refine (owner_any o _).mono ?_
  rintro x w1 ⟨rfl, rfl⟩
  cases hm0 : may o with
  | false =>
    have e0 : doneErr b o = 1 := by unfold doneErr; rw [if_pos hm0]
    have E0 := hid e0
    have E1 := hid (show doneR b o = b by unfold doneR; rw [if_neg (by omega)])
    have E2 := hid (show doneD b die o = die by unfold doneD; rw [if_neg (by omega)])
    clear e0 hm0
    go_wp2_with fail
    go_ret
    rw [E0.out, E1.out, E2.out]
    exact ⟨rfl, HR0.out⟩
  | true =>
    obtain ⟨o1, o2, o3⟩ := may_err hm0
    have HM := hid hm0
    obtain ⟨k, hk⟩ : ∃ k : Nat, k = o.toNat := ⟨_, rfl⟩
    rw [← hk] at o1 o2 o3
    subst o3
    clear hk hm0
    obtain ⟨x0, x1, x2, x3, _, _, _⟩ := H.out.cells
    have xi := H.out.i o1
    have lC := lt_of_block H.out.cell
    have lI := lt_of_block H.out.ic
    have hfi := H.out.freeI k
    have k1 : (k : Int) < 65 := by omega
    by_cases hz : b.inn k = 0
    · rw [hz] at xi
      have e0 : doneErr b (k : Int) = 44 := by unfold doneErr; rw [if_neg (by simp [HM.out]), if_pos (by simpa using hz)]
      have E0 := hid e0
      have E1 := hid (show doneR b (k : Int) = b by unfold doneR; rw [if_neg (by omega)])
      have E2 := hid (show doneD b die (k : Int) = die by unfold doneD; rw [if_neg (by omega)])
      clear e0
      go_wp2_with fail
      go_ret
      rw [E0.out, E1.out, E2.out]
      exact ⟨rfl, HR0.out⟩
    · have e0 : doneErr b (k : Int) = 0 := by unfold doneErr; rw [if_neg (by simp [HM.out]), if_neg (by simpa using hz)]
      have E0 := hid e0
      have E1 := hid (show doneR b (k : Int) = { b with inn := upd b.inn k 0 } by unfold doneR; rw [if_pos e0, Int.toNat_natCast])
      have E2 := hid (show doneD b die (k : Int) = looseD { b with inn := upd b.inn k 0 } die (b.inn k) by unfold doneD; rw [if_pos e0, Int.toNat_natCast])
      have HRy := hid (H.out.pokeI o1 o2 0)
      have HWy := hid (HW.out.inner (o := k) (v := 0) (by have := HW.out.now; omega))
      have d1 : (b.inn k == 0) = false := by simp [hz]
      clear e0
      go_wp2_with fail
      refine (rloose_any HRy.out HWy.out hd _).mono ?_
      rintro x w2 ⟨rfl, hr, hf⟩
      have HRl := hid hr
      have HFl := hid hf
      clear hr hf
      go_wp2_with fail
      go_ret
      rw [E0.out, E1.out, E2.out]
      exact ⟨rfl, HRl.out, ((Fr.refl _ _).setCell (p := ⟨I, k, none⟩) (fun _ => Or.inr (Or.inr rfl)) _).trans HFl.out⟩
end
end Go.Proofs.Ytekooeekaigmaaa.E
