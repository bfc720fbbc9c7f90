/- The document's Release, Join, Live: walks. -/
import Derived.Test.YtekooeekaigmaaaEP5
namespace Go.Proofs.Ytekooeekaigmaaa.E
open Go.RowKit Go.Maps Go.MuLone
section
variable {w : World} {C S I base : Nat} {sv : Nat → Value} {vD vW : Value} {b : Bo} {die : List Int}

/-- Release, as the document has it. -/
def relR (b : Bo) (o e : Int) : Bo := if relErr b o e = 0 then { b with sets := upd b.sets o.toNat (del e (b.sets o.toNat)) } else b
def relD (b : Bo) (die : List Int) (o e : Int) : List Int := if relErr b o e = 0 then looseD { b with sets := upd b.sets o.toNat (del e (b.sets o.toNat)) } die e else die
set_option maxHeartbeats 4000000 in
set_option maxRecDepth 100000 in
theorem rrel_any (h : Rb w C S I base sv vD vW b die) (hw : Wf b) (hd : die.length ≤ 4398046511000) (o e : Int) :
    Calls Try.prog 40 #[.pointer (some ⟨C, 0, none⟩), .int .i64 o, .int .i64 e] w fun x w' => x = .returned (.int .i64 (relErr b o e)) ∧ Rl w w' C S I base (relR b o e) (relD b die o e) := by
  have H := hid h
  have HW := hid hw
  have hR0 : Rl w w C S I base b die := ⟨⟨_, _, _, h⟩, Fr.refl _ _⟩
  have HR0 := hid hR0
  clear h hR0
  go_enter Try.func40, Try.ntmps40
  go_wp2_with fail
  refine (owner_any o _).mono ?_
  rintro x w1 ⟨rfl, rfl⟩
  cases hm0 : may o with
  | false =>
    have e0 : relErr b o e = 1 := by unfold relErr; rw [if_pos hm0]
    have E0 := hid e0
    have E1 := hid (show relR b o e = b by unfold relR; rw [if_neg (by omega)])
    have E2 := hid (show relD b die o e = die by unfold relD; rw [if_neg (by omega)])
    clear e0 hm0
    go_wp2_with fail
    go_ret
    rw [E0.out, E1.out, E2.out]
    exact ⟨rfl, HR0.out⟩
  | true =>
    obtain ⟨o1, o2, o3⟩ := may_err hm0
    have HM := hid hm0
    obtain ⟨k, hk⟩ : ∃ k : Nat, k = o.toNat := ⟨_, rfl⟩
    rw [← hk] at o1 o2 o3
    subst o3
    clear hk hm0
    obtain ⟨x0, x1, x2, x3, _, _, _⟩ := H.out.cells
    have xs := H.out.s o1
    have HO := hid (H.out.so k o1)
    obtain ⟨a1, c1, e1, _, _⟩ := HO.out.at
    rw [e1] at xs HO
    have lC := lt_of_block H.out.cell
    have lS := lt_of_block H.out.sc
    have k1 : (k : Int) < 65 := by omega
    have hfew := HW.out.few k o1
    have hpin := HW.out.pins
    go_wp2_with fail
    refine (Has_any HO.out e).mono ?_
    rintro x w1 ⟨rfl, rfl⟩
    cases hh : hasB (b.sets k) e with
    | false =>
      have e0 : relErr b (k : Int) e = 33 := by unfold relErr; rw [if_neg (by simp [HM.out]), if_pos (by simpa using hh)]
      have E0 := hid e0
      have E1 := hid (show relR b (k : Int) e = b by unfold relR; rw [if_neg (by omega)])
      have E2 := hid (show relD b die (k : Int) e = die by unfold relD; rw [if_neg (by omega)])
      clear e0
      go_wp2_with fail
      go_ret
      rw [E0.out, E1.out, E2.out]
      exact ⟨rfl, HR0.out⟩
    | true =>
        have e0 : relErr b (k : Int) e = 0 := by unfold relErr; rw [if_neg (by simp [HM.out]), if_neg (by simp [hh])]
        have E0 := hid e0
        have E1 := hid (show relR b (k : Int) e = { b with sets := upd b.sets k (del e (b.sets k)) } by unfold relR; rw [if_pos e0, Int.toNat_natCast])
        have E2 := hid (show relD b die (k : Int) e = looseD { b with sets := upd b.sets k (del e (b.sets k)) } die e by unfold relD; rw [if_pos e0, Int.toNat_natCast])
        have HWy : Hid (Wf { b with sets := upd b.sets k (del e (b.sets k)) }) := HW.out.put (ri_del (HW.out.ri k)) (fun x hx => HW.out.lo k x (mem_del.1 hx).1) (fun _ => by
          have h1 : (del e (b.sets k)).length ≤ (b.sets k).length := List.length_filter_le _ _
          omega)
        have HR := H
        have HFq := hid (Fr.refl w1 (RS C S I))
        clear e0 x0 x1 x2 x3 xs
        go_wp2_with fail
        have HSV := hid e1
        have HO1 := hid o1
        have HLn := hid (show (b.sets k).length ≤ 4398046511000 by omega)
        have HHd : Hid (∀ W', Rb W' C S I base sv vD vW b die → W'.cell? ⟨C, 2, none⟩ = some (.slice (some ⟨S, 0, none⟩) 65 65) ∧ W'.cell? ⟨S, k, none⟩ = some (.slice a1 (b.sets k).length c1) ∧ W'.frozen? ⟨S, k, none⟩ = false ∧ S < W'.heap.size ∧ C < W'.heap.size) := fun W' hr => by
          refine ⟨hr.cells.2.2.1, ?_, hr.freeS k, lt_of_block hr.sc, lt_of_block hr.cell⟩
          rw [← HSV.out]
          exact hr.s HO1.out
        have HWc : Hid (∀ W', Rb W' C S I base sv vD vW b die → Calls Try.prog 65 #[.slice a1 (b.sets k).length c1, .int .i64 e] W' fun xx w' => ∃ a3 c3, xx = .returned (.slice a3 (del e (b.sets k)).length c3) ∧ OwI w' base (.slice a3 (del e (b.sets k)).length c3) (del e (b.sets k)) ∧ Rb w' C S I base sv vD vW b die ∧ Fr W' w' (fun _ => False)) := fun W' hr => by
          have ho := hr.so k HO1.out
          rw [HSV.out] at ho
          refine (Without_any ho HLn.out e).mono ?_
          rintro xx w' ⟨v', rfl, ho', hf⟩
          obtain ⟨a3, c3, rfl, _, _⟩ := ho'.at
          exact ⟨a3, c3, rfl, ho'.mono hr.lo.2.2.2, hr.step hf, hf⟩
        clear lC lS
        go_cut [] (fun wx => Hid (∃ sv', Rb wx C S I base sv' vD vW { b with sets := upd b.sets k (del e (b.sets k)) } die) ∧ Hid (Fr w1 wx (RS C S I)))
        case first =>
          generalize (del e (b.sets k)).length = LN at *
          obtain ⟨y1, y2, y3, y4, y5⟩ := HHd.out _ HR.out
          go_region_with (go_at_call 65; with_reducible refine (HWc.out _ (by first | with_reducible exact HR.out | with_reducible exact Rb.drew HR.out | with_reducible exact Rb.drew (Rb.drew HR.out))).mono ?_; rintro xe w10 ⟨a3, c3, rfl, ho, hr, hf⟩; have HO3 := hid ho; have HFq := hid (show Fr w1 w10 (RS C S I) from HFq.out.trans (Fr.ofDrewS (by first | exact hf | exact Fr.ofDrew hf | exact Fr.ofDrew (Fr.ofDrew hf)))); have HR := hid hr; obtain ⟨z1, z2, z3, z4, z5⟩ := HHd.out _ hr; clear ho hf hr)
          all_goals (go_wp2_with fail)
          all_goals go_meet
          all_goals first
            | exact ⟨⟨_, HR.out.pokeS HO1.out o2 HO3.out⟩, HFq.out.setCell (p := ⟨S, k, none⟩) (fun _ => Or.inr (Or.inl rfl)) _⟩
            | exact ⟨⟨_, HR.out.drew.pokeS HO1.out o2 HO3.out⟩, HFq.out.drew.setCell (p := ⟨S, k, none⟩) (fun _ => Or.inr (Or.inl rfl)) _⟩
        case rest =>
          obtain ⟨HRx, HFx⟩ := hcut
          obtain ⟨sv', hr⟩ := HRx.out
          have HRy := hid hr
          clear hr
          go_wp2_with fail
          refine (rloose_any HRy.out HWy.out hd e).mono ?_
          rintro x w5 ⟨rfl, hr, hf⟩
          have HRl := hid hr
          have HFl := hid hf
          clear hr hf
          go_wp2_with fail
          go_ret
          rw [E0.out, E1.out, E2.out]
          exact ⟨rfl, HRl.out, HFx.out.trans HFl.out⟩
end
end Go.Proofs.Ytekooeekaigmaaa.E
