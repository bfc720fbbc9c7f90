/- The document's Begin, End: walks. -/
import Derived.Test.YtekooeekaigmaaaEP8
namespace Go.Proofs.Ytekooeekaigmaaa.E
open Go.RowKit Go.Maps Go.MuLone
section
variable {w : World} {C S I base : Nat} {sv : Nat → Value} {vD vW : Value} {b : Bo} {die : List Int}

/-- Begin, as the document has it. -/
def begR (b : Bo) (die : List Int) : Bo := if b.begun then b else { b with begun := true, sets := upd b.sets 66 die }
set_option maxHeartbeats 2000000 in
set_option maxRecDepth 100000 in
theorem rbegin_any (h : Rb w C S I base sv vD vW b die) (hd : die.length ≤ 4398046511000) :
    Calls Try.prog 45 #[.pointer (some ⟨C, 0, none⟩)] w fun x w' => x = .returned (.int .i64 (beginErr b)) ∧ Rl w w' C S I base (begR b die) die := by
  have H := hid h
  have hR0 : Rl w w C S I base b die := ⟨⟨_, _, _, h⟩, Fr.refl _ _⟩
  have HR0 := hid hR0
  obtain ⟨_, _, _, _, _, _, x6⟩ := h.cells
  have lC := lt_of_block h.cell
  have f6 := h.freeC 6
  clear h hR0
  cases hb : b.begun with
  | true =>
    rw [hb] at x6
    have E0 := hid (show beginErr b = 43 by simp [beginErr, hb])
    have E1 := hid (show begR b die = b by unfold begR; rw [if_pos hb])
    go_enter Try.func45, Try.ntmps45
    go_wp2_with fail
    go_ret
    rw [E0.out, E1.out]
    exact ⟨rfl, HR0.out⟩
  | false =>
    rw [hb] at x6
    have E0 := hid (show beginErr b = 0 by simp [beginErr, hb])
    have E1 := hid (show begR b die = { b with begun := true, sets := upd b.sets 66 die } by unfold begR; rw [if_neg (by simp [hb])])
    have HR1 := hid (H.out.pokeC (p := 6) (u := .bool true) (b' := { b with begun := true }) (die' := die) rfl rfl (fun _ _ => rfl) H.out.dO H.out.wO)
    have HF1 := hid ((Fr.refl w (RS C S I)).setCell (p := ⟨C, 6, none⟩) (fun _ => Or.inl rfl) (.bool true))
    obtain ⟨a4, c4, e4, _, _⟩ := HR1.out.dO.at
    subst e4
    have y4 := HR1.out.cells.2.2.2.2.1
    have yC := lt_of_block HR1.out.cell
    have HS := hid H.out.lo.2.2.2
    have HE : Hid (OwI ((w.setCell ⟨C, 6, none⟩ (.bool true)).alloc (.cells #[] 3)) base (.slice (some ⟨w.heap.size, 0, none⟩) 0 0) []) :=
      ⟨rfl, Or.inr ⟨w.heap.size, 0, #[], rfl, HS.out, by simpa using heap_alloc_new (w.setCell ⟨C, 6, none⟩ (.bool true)) (.cells #[] 3), Nat.le_refl _, Nat.zero_le _, rfl, rfl⟩⟩
    have HRd := hid ((HR1.out.dO.fr (alloc_fr _ (.cells #[] 3) (fun _ => False)) (fun _ _ h => h)).rd)
    go_enter Try.func45, Try.ntmps45
    go_wp2_with (at_builtin; go_must (refine wpl_app rfl (.tmp 11) (.tmp 15) rfl base (.slice (some ⟨w.heap.size, 0, none⟩) 0 0) (.slice a4 die.length c4) [] die rfl rfl HE.out HRd.out ?c1 ?c2 ?_))
    case c1 => simp; omega
    case c2 => have := HS.out; simp; omega
    intro v2 w2 ho2 hg2 hat
    replace ho2 : OwI w2 base v2 die := ho2
    obtain ⟨a2, c2, rfl, _, _⟩ := ho2.at
    have HO2 := hid ho2
    have HF2 := hid (show Fr (w.setCell ⟨C, 6, none⟩ (.bool true)) w2 (fun _ => False) from ((Fr.refl _ _).alloc _).grown hg2 (fun k hk e => by
      have e' : w.heap.size = k := by simpa [Value.ownBlock] using e
      have hk' : k < w.heap.size := by simpa using hk
      omega))
    have HR2 := hid (HR1.out.step HF2.out)
    have z5 := HR2.out.cells.2.2.2.2.2.1
    have zC := lt_of_block HR2.out.cell
    have zf := HR2.out.freeC 5
    clear ho2 hg2 hat y4 yC x6 lC f6
    go_wp2_with fail
    go_ret
    rw [E0.out, E1.out]
    refine ⟨rfl, ⟨_, _, _, HR2.out.pokeC (p := 5) (b' := { b with begun := true, sets := upd b.sets 66 die }) (die' := die) rfl rfl (fun i hi => upd_other _ _ (by omega)) HR2.out.dO ?_⟩, (HF1.out.trans (HF2.out.mono (fun _ _ h => h.elim))).setCell (p := ⟨C, 5, none⟩) (fun _ => Or.inl rfl) _⟩
    dsimp only
    rw [upd_same]
    exact HO2.out

/-- End, as the document has it. -/
def delL (die : List Int) (l : List Int) : List Int := l.foldl (fun d x => del x d) die
theorem delL_len : ∀ (l die : List Int), (delL die l).length ≤ die.length
  | [], _ => Nat.le_refl _
  | x :: l, die => by
    have h1 := delL_len l (del x die)
    have h2 : (del x die).length ≤ die.length := List.length_filter_le _ _
    show (delL (del x die) l).length ≤ _
    omega
theorem delL_snoc (die l : List Int) {i : Nat} (hi : i < l.length) : delL die (l.take (i + 1)) = del (l.getD i 0) (delL die (l.take i)) := by
  unfold delL
  rw [List.take_add_one, List.foldl_append, List.getElem?_eq_getElem hi]
  simp [List.getD, hi]
end
end Go.Proofs.Ytekooeekaigmaaa.E
