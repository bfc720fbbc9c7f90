/- The document's Join: walk. -/
import Derived.Test.YtekooeekaigmaaaEP6
namespace Go.Proofs.Ytekooeekaigmaaa.E
open Go.RowKit Go.Maps Go.MuLone
section
variable {w : World} {C S I base : Nat} {sv : Nat → Value} {vD vW : Value} {b : Bo} {die : List Int}

def anyB (b : Bo) (e : Int) (k : Nat) : Bool := (List.range k).any (fun i => hasB (b.sets i) e)
theorem anyB_succ (b : Bo) (e : Int) (k : Nat) : anyB b e (k + 1) = (anyB b e k || hasB (b.sets k) e) := by
  unfold anyB
  rw [List.range_succ, List.any_append]
  simp
set_option maxHeartbeats 4000000 in
set_option maxRecDepth 100000 in
theorem rjoin_any (h : Rb w C S I base sv vD vW b die) (hw : Wf b) (o e : Int) :
    Calls Try.prog 39 #[.pointer (some ⟨C, 0, none⟩), .int .i64 o, .int .i64 e] w fun x w' => x = .returned (.int .i64 (joinErr b o e)) ∧ Rl w w' C S I base (joinB b o e) die := by
  have H := hid h
  have HW := hid hw
  have hR0 : Rl w w C S I base b die := ⟨⟨_, _, _, h⟩, Fr.refl _ _⟩
  have HR0 := hid hR0
  clear h hR0
  go_enter Try.func39, Try.ntmps39
  go_wp2_with fail
  refine (owner_any o _).mono ?_
  rintro x w1 ⟨rfl, rfl⟩
  cases hm0 : may o with
  | false =>
    have e0 : joinErr b o e = 1 := by unfold joinErr; rw [if_pos hm0]
    have E0 := hid e0
    have E2 := hid (show joinB b o e = b by unfold joinB; rw [if_neg (by omega)])
    clear e0 hm0
    go_wp2_with fail
    go_ret
    rw [E0.out, E2.out]
    exact ⟨rfl, HR0.out⟩
  | true =>
    obtain ⟨o1, o2, o3⟩ := may_err hm0
    have HM := hid hm0
    obtain ⟨k, hk⟩ : ∃ k : Nat, k = o.toNat := ⟨_, rfl⟩
    rw [← hk] at o1 o2 o3
    subst o3
    clear hk hm0
    have hfew := HW.out.few k o1
    have hpin := HW.out.pins
    go_wp2_with fail
    go_loopg [7, 8] 64 (fun g s7 s8 wx => ∃ j : Nat, s8 = .int .i64 ((j : Int) + 1) ∧ s7 = .bool (anyB b e (j + 1)) ∧ j + g = 64 ∧ w1 = wx)
    case atStart =>
      refine ⟨0, rfl, ?_, rfl, rfl⟩
      have : anyB b e (0 + 1) = false := by unfold anyB; simp [List.range_succ, hasB, H.out.z.1]
      rw [this]
    case round =>
      obtain ⟨j, rfl, rfl, hg, rfl⟩ := hrel
      obtain ⟨x0, x1, x2, x3, _, _, _⟩ := H.out.cells
      have lC := lt_of_block H.out.cell
      have lS := lt_of_block H.out.sc
      cases gk with
      | succ g =>
        have t1 : (j : Int) + 1 ≤ 64 := by omega
        have j1 : j + 1 < 65 := by omega
        have HG := hid hg
        have HSt := hid (anyB_succ b e (j + 1))
        clear hg
        cases ha : anyB b e (j + 1) with
        | true =>
          go_wp2_with fail
          go_roundg g
          case rel => exact ⟨j + 1, by simp, by rw [HSt.out, ha]; rfl, by have := HG.out; omega, rfl⟩
          case measure => omega
        | false =>
          have xs := H.out.s j1
          have HO := hid (H.out.so (j + 1) j1)
          obtain ⟨a1, c1, e1, _, _⟩ := HO.out.at
          rw [e1] at xs HO
          go_wp2_with fail
          refine (Has_any HO.out e).mono ?_
          rintro x w1 ⟨rfl, rfl⟩
          go_wp2_with fail
          go_roundg g
          case rel => exact ⟨j + 1, by simp, by rw [HSt.out, ha]; rfl, by have := HG.out; omega, rfl⟩
          case measure => omega
      | zero =>
        have t1 : ¬ (j : Int) + 1 ≤ 64 := by omega
        have ej : anyB b e (j + 1) = some' b e := by rw [show j = 64 by omega]; rfl
        rw [ej]
        clear hg ej
        have k1 : (k : Int) < 65 := by omega
        have xs := H.out.s o1
        have HO := hid (H.out.so k o1)
        obtain ⟨a1, c1, e1, _, _⟩ := HO.out.at
        rw [e1] at xs HO
        cases hs : some' b e with
        | false =>
          have e0 : joinErr b (k : Int) e = 33 := by unfold joinErr; rw [if_neg (by simp [HM.out]), if_pos hs]
          have E0 := hid e0
          have E2 := hid (show joinB b (k : Int) e = b by unfold joinB; rw [if_neg (by omega)])
          clear e0
          show Code.wp _ _ _ _ _
          go_wp2_with fail
          go_ret
          rw [E0.out, E2.out]
          exact ⟨rfl, HR0.out⟩
        | true =>
          show Code.wp _ _ _ _ _
          go_wp2_with fail
          refine (Has_any HO.out e).mono ?_
          rintro x w1 ⟨rfl, rfl⟩
          cases hh : hasB (b.sets k) e with
          | true =>
            have e0 : joinErr b (k : Int) e = 0 := by unfold joinErr; rw [if_neg (by simp [HM.out]), if_neg (by simp [hs]), if_pos (by simpa using hh)]
            have E0 := hid e0
            have E2 := hid (show Rl w1 w1 C S I base (joinB b (k : Int) e) die by
              have : joinB b (k : Int) e = b := by
                unfold joinB
                rw [if_pos e0, Int.toNat_natCast, ins_there (HW.out.ri k) (hasB_true.1 hh)]
                have e2 : upd b.sets k (b.sets k) = b.sets := funext (fun i => by
                  by_cases e : i = k
                  · rw [e, upd_same]
                  · exact upd_other _ _ e)
                rw [e2]
              rw [this]
              exact HR0.out)
            clear e0
            go_wp2_with fail
            go_ret
            rw [E0.out]
            exact ⟨rfl, E2.out⟩
          | false =>
            by_cases hp : b.pins ≤ ((b.sets k).length : Int)
            · have e0 : joinErr b (k : Int) e = 34 := by unfold joinErr; rw [if_neg (by simp [HM.out]), if_neg (by simp [hs]), if_neg (by simp [hh]), if_pos (by simpa using hp)]
              have E0 := hid e0
              have E2 := hid (show joinB b (k : Int) e = b by unfold joinB; rw [if_neg (by omega)])
              have hd : decide (b.pins ≤ ((b.sets k).length : Int)) = true := decide_eq_true hp
              clear e0
              go_wp2_with fail
              go_big_quiet (fail)
              go_wp2_with fail
              go_ret
              rw [E0.out, E2.out]
              exact ⟨rfl, HR0.out.1.imp (fun _ h => h.imp (fun _ h => h.imp (fun _ h => h.step ((Fr.refl _ _).drewN _)))), HR0.out.2.drewN _⟩
            · have hd : decide (b.pins ≤ ((b.sets k).length : Int)) = false := decide_eq_false hp
              have e0 : joinErr b (k : Int) e = 0 := by unfold joinErr; rw [if_neg (by simp [HM.out]), if_neg (by simp [hs]), if_neg (by simp [hh]), if_neg (by simpa using hp)]
              have E0 := hid e0
              have E2 := hid (show joinB b (k : Int) e = { b with sets := upd b.sets k (ins e (b.sets k)) } by unfold joinB; rw [if_pos e0, Int.toNat_natCast])
              have hR1 := fun n => H.out.step ((Fr.refl w1 (fun _ => False)).drewN n)
              clear e0
              go_wp2_with fail
              go_big_quiet (fail)
              have HR := hid (hR1 nq)
              have HFq := hid ((Fr.refl w1 (RS C S I)).drewN nq)
              clear hR1 x0 x1 x2 x3 xs
              go_wp2_with fail
              generalize w1.drewN nq = wq at *
              have HSV := hid e1
              have HO1 := hid o1
              have HLn := hid (show (b.sets k).length ≤ 4398046511000 by omega)
              have HHd : Hid (∀ W', Rb W' C S I base sv vD vW b die → W'.cell? ⟨C, 2, none⟩ = some (.slice (some ⟨S, 0, none⟩) 65 65) ∧ W'.cell? ⟨S, k, none⟩ = some (.slice a1 (b.sets k).length c1) ∧ W'.frozen? ⟨S, k, none⟩ = false ∧ S < W'.heap.size ∧ C < W'.heap.size) := fun W' hr => by
                refine ⟨hr.cells.2.2.1, ?_, hr.freeS k, lt_of_block hr.sc, lt_of_block hr.cell⟩
                rw [← HSV.out]
                exact hr.s HO1.out
              have HWc : Hid (∀ W', Rb W' C S I base sv vD vW b die → Calls Try.prog 64 #[.slice a1 (b.sets k).length c1, .int .i64 e] W' fun xx w' => ∃ a3 c3, xx = .returned (.slice a3 (ins e (b.sets k)).length c3) ∧ OwI w' base (.slice a3 (ins e (b.sets k)).length c3) (ins e (b.sets k)) ∧ Rb w' C S I base sv vD vW b die ∧ Fr W' w' (fun _ => False)) := fun W' hr => by
                have ho := hr.so k HO1.out
                rw [HSV.out] at ho
                refine (With_any ho HLn.out e).mono ?_
                rintro xx w' ⟨v', rfl, ho', hf⟩
                obtain ⟨a3, c3, rfl, _, _⟩ := ho'.at
                exact ⟨a3, c3, rfl, ho'.mono hr.lo.2.2.2, hr.step hf, hf⟩
              clear lC lS
              go_cut [] (fun wx => Hid (∃ sv', Rb wx C S I base sv' vD vW { b with sets := upd b.sets k (ins e (b.sets k)) } die) ∧ Hid (Fr w1 wx (RS C S I)))
              case first =>
                generalize (ins e (b.sets k)).length = LN at *
                obtain ⟨y1, y2, y3, y4, y5⟩ := HHd.out _ HR.out
                go_region_with (go_at_call 64; with_reducible refine (HWc.out _ (by first | with_reducible exact HR.out | with_reducible exact Rb.drew HR.out | with_reducible exact Rb.drew (Rb.drew HR.out))).mono ?_; rintro xe w10 ⟨a3, c3, rfl, ho, hr, hf⟩; have HO3 := hid ho; have HFq := hid (show Fr w1 w10 (RS C S I) from HFq.out.trans (Fr.ofDrewS (by first | exact hf | exact Fr.ofDrew hf | exact Fr.ofDrew (Fr.ofDrew hf)))); have HR := hid hr; obtain ⟨z1, z2, z3, z4, z5⟩ := HHd.out _ hr; clear ho hf hr)
                all_goals (go_wp2_with fail)
                all_goals go_meet
                all_goals first
                  | exact ⟨⟨_, HR.out.pokeS HO1.out o2 HO3.out⟩, HFq.out.setCell (p := ⟨S, k, none⟩) (fun _ => Or.inr (Or.inl rfl)) _⟩
                  | exact ⟨⟨_, HR.out.drew.pokeS HO1.out o2 HO3.out⟩, HFq.out.drew.setCell (p := ⟨S, k, none⟩) (fun _ => Or.inr (Or.inl rfl)) _⟩
              case rest =>
                obtain ⟨HRx, HFx⟩ := hcut
                obtain ⟨sv', hr⟩ := HRx.out
                have HRy := hid hr
                clear hr
                go_wp2_with fail
                go_ret
                rw [E0.out, E2.out]
                exact ⟨rfl, ⟨_, _, _, HRy.out⟩, HFx.out⟩

end
end Go.Proofs.Ytekooeekaigmaaa.E
