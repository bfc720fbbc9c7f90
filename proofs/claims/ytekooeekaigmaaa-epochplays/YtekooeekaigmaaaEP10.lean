/- The document's End: walk. -/
import Derived.Test.YtekooeekaigmaaaEP9
namespace Go.Proofs.Ytekooeekaigmaaa.E
open Go.RowKit Go.Maps Go.MuLone
section
variable {w : World} {C S I base : Nat} {sv : Nat → Value} {vD vW : Value} {b : Bo} {die : List Int}

def endD (b : Bo) (die : List Int) : List Int := if b.begun then delL die (b.sets 66) else die
set_option maxHeartbeats 2000000 in
set_option maxRecDepth 100000 in
theorem rend_any (h : Rb w C S I base sv vD vW b die) (hd : die.length ≤ 4398046511000) :
    Calls Try.prog 46 #[.pointer (some ⟨C, 0, none⟩)] w fun x w' => x = .returned (.tuple #[.int .i64 (endN b), .int .i64 (endErr b)]) ∧ Rl w w' C S I base (endB b) (endD b die) := by
  have H := hid h
  have hR0 : Rl w w C S I base b die := ⟨⟨_, _, _, h⟩, Fr.refl _ _⟩
  have HR0 := hid hR0
  obtain ⟨_, _, _, _, _, _, x6⟩ := h.cells
  have lC := lt_of_block h.cell
  have f6 := h.freeC 6
  clear h hR0
  cases hb : b.begun with
  | false =>
    rw [hb] at x6
    have E0 := hid (show endErr b = 44 by simp [endErr, hb])
    have E1 := hid (show endN b = 0 by simp [endN, hb])
    have E2 := hid (show endB b = b by unfold endB; rw [if_neg (by simp [hb])])
    have E3 := hid (show endD b die = die by unfold endD; rw [if_neg (by simp [hb])])
    go_enter Try.func46, Try.ntmps46
    go_wp2_with fail
    go_ret2
    rw [E0.out, E1.out, E2.out, E3.out]
    exact ⟨rfl, HR0.out⟩
  | true =>
    rw [hb] at x6
    have E0 := hid (show endErr b = 0 by simp [endErr, hb])
    have E1 := hid (show endN b = ((b.sets 66).length : Int) by simp [endN, hb])
    have E2 := hid (show endB b = { b with begun := false, sets := upd b.sets 66 [] } by unfold endB; rw [if_pos hb])
    have E3 := hid (show endD b die = delL die (b.sets 66) by unfold endD; rw [if_pos hb])
    obtain ⟨a5, c5, e5, m5, _⟩ := H.out.wO.at
    subst e5
    unfold maxLen at m5
    have HR1 := hid (H.out.pokeC (p := 6) (u := .bool false) (b' := { b with begun := false }) (die' := die) rfl rfl (fun _ _ => rfl) H.out.dO H.out.wO)
    have HF1 := hid ((Fr.refl w (RS C S I)).setCell (p := ⟨C, 6, none⟩) (fun _ => Or.inl rfl) (.bool false))
    go_enter Try.func46, Try.ntmps46
    go_wp2_with fail
    clear x6 lC f6
    generalize w.setCell ⟨C, 6, none⟩ (.bool false) = wy at *
    show Code.wp _ _ _ _ _
    go_loopg [4] (b.sets 66).length (fun g s4 wx => ∃ i : Nat, s4 = .int .i64 (i : Int) ∧ i + g = (b.sets 66).length ∧ Hid (∃ vD, Rb wx C S I base sv vD (.slice a5 (b.sets 66).length c5) { b with begun := false } (delL die ((b.sets 66).take i))) ∧ Hid (Fr w wx (RS C S I)))
    case atStart => exact ⟨0, rfl, by omega, ⟨_, HR1.out⟩, HF1⟩
    case round =>
      clear HR1 HF1
      obtain ⟨i, rfl, hg, HRi, HFi⟩ := hrel
      obtain ⟨vD1, hri⟩ := HRi.out
      have HR := hid hri
      have x5 := hri.cells.2.2.2.2.2.1
      have lC := lt_of_block hri.cell
      have f5 := hri.freeC 5
      clear hri HRi
      cases gk with
      | zero =>
        have t1 : ¬ (i : Int) < ((b.sets 66).length : Int) := by omega
        have ei : (b.sets 66).take i = b.sets 66 := by rw [show i = (b.sets 66).length by omega, List.take_length]
        rw [ei] at HR
        clear hg ei
        go_wp2_with fail
        go_ret2
        rw [E0.out, E1.out, E2.out, E3.out]
        refine ⟨rfl, ⟨_, _, _, HR.out.pokeC (p := 5) (vW' := .slice none 0 0) (b' := { b with begun := false, sets := upd b.sets 66 [] }) rfl rfl (fun i hi => upd_other _ _ (by omega)) HR.out.dO ?_⟩, HFi.out.setCell (p := ⟨C, 5, none⟩) (fun _ => Or.inl rfl) _⟩
        dsimp only
        rw [upd_same]
        exact World.ownsRow_nil _ _ _ _
      | succ g =>
        have hi : i < (b.sets 66).length := by omega
        have t1 : (i : Int) < ((b.sets 66).length : Int) := by omega
        obtain ⟨g9, rfl, _⟩ := HR.out.wO.cell' hi
        obtain ⟨a4, c4, e4, _, _⟩ := HR.out.dO.at
        subst e4
        have hdl := delL_len ((b.sets 66).take i) die
        have HDl := hid (show (delL die ((b.sets 66).take i)).length ≤ 4398046511000 by omega)
        have HSt := hid (delL_snoc die (b.sets 66) hi)
        have HHI := hid hi
        have HHd : Hid (∀ W', Rb W' C S I base sv (.slice a4 (delL die ((b.sets 66).take i)).length c4) (.slice (some ⟨g9, 0, none⟩) (b.sets 66).length c5) { b with begun := false } (delL die ((b.sets 66).take i)) → W'.cell? ⟨C, 4, none⟩ = some (.slice a4 (delL die ((b.sets 66).take i)).length c4) ∧ W'.cell? ⟨C, 5, none⟩ = some (.slice (some ⟨g9, 0, none⟩) (b.sets 66).length c5) ∧ W'.cell? ⟨g9, i, none⟩ = some (.int .i64 ((b.sets 66).getD i 0)) ∧ W'.frozen? ⟨C, 4, none⟩ = false ∧ C < W'.heap.size ∧ g9 < W'.heap.size) := fun W' hr => by
          obtain ⟨g8, e8, hc⟩ := hr.wO.cell' HHI.out
          simp only [Option.some.injEq, Addr.mk.injEq] at e8
          obtain ⟨rfl, _, _⟩ := e8
          exact ⟨hr.cells.2.2.2.2.1, hr.cells.2.2.2.2.2.1, hc, hr.freeC 4, lt_of_block hr.cell, World.block_lt_of_cell? W' _ hc⟩
        have HG := hid hg
        generalize (b.sets 66).getD i 0 = x at *
        generalize hDL : delL die ((b.sets 66).take i) = DL at *
        have HWc : Hid (∀ W', Rb W' C S I base sv (.slice a4 DL.length c4) (.slice (some ⟨g9, 0, none⟩) (b.sets 66).length c5) { b with begun := false } DL → Calls Try.prog 65 #[.slice a4 DL.length c4, .int .i64 x] W' fun xx w' => ∃ a3 c3, xx = .returned (.slice a3 (del x DL).length c3) ∧ OwI w' base (.slice a3 (del x DL).length c3) (del x DL) ∧ Rb w' C S I base sv (.slice a4 DL.length c4) (.slice (some ⟨g9, 0, none⟩) (b.sets 66).length c5) { b with begun := false } DL ∧ Fr W' w' (fun _ => False)) := fun W' hr => by
          refine (Without_any hr.dO HDl.out x).mono ?_
          rintro xx w' ⟨v', rfl, ho', hf⟩
          obtain ⟨a3, c3, rfl, _, _⟩ := ho'.at
          exact ⟨a3, c3, rfl, ho'.mono hr.lo.2.2.2, hr.step hf, hf⟩
        have HFq := HFi
        clear hg hdl HFi f5 hi hDL
        go_wp2_with fail
        clear x5 lC
        have HLN := hid (rfl : (del x DL).length = (del x DL).length)
        obtain ⟨y1, y2, y3, y4, y5, y6⟩ := HHd.out _ HR.out
        go_region_with (go_at_call 65; with_reducible refine (HWc.out _ (by first | with_reducible exact HR.out | with_reducible exact Rb.drew HR.out | with_reducible exact Rb.drew (Rb.drew HR.out))).mono ?_; rintro xe w10 ⟨a3, c3, rfl, ho, hr, hf⟩; have HO3 := hid ho; have HFq := hid (show Fr w w10 (RS C S I) from HFq.out.trans (Fr.ofDrewS (by first | exact hf | exact Fr.ofDrew hf | exact Fr.ofDrew (Fr.ofDrew hf)))); have HR := hid hr; obtain ⟨z1, z2, z3, z4, z5, z6⟩ := HHd.out _ hr; clear ho hf hr)
        all_goals (go_wp2_with fail)
        all_goals go_roundg g
        all_goals first
          | omega
          | exact ⟨i + 1, by simp, by have := HG.out; omega, by rw [HSt.out]; exact ⟨_, HR.out.pokeC (p := 4) (b' := { b with begun := false }) rfl rfl (fun _ _ => rfl) HO3.out HR.out.wO⟩, HFq.out.setCell (p := ⟨C, 4, none⟩) (fun _ => Or.inl rfl) _⟩
end
end Go.Proofs.Ytekooeekaigmaaa.E
