/- The document's Live, Begin, Drop: walks. -/
import Derived.Test.YtekooeekaigmaaaEP7
namespace Go.Proofs.Ytekooeekaigmaaa.E
open Go.RowKit Go.Maps Go.MuLone
section
variable {w : World} {C S I base : Nat} {sv : Nat → Value} {vD vW : Value} {b : Bo} {die : List Int}

theorem wrapI {n : Int} (h1 : -9223372036854775808 ≤ n) (h2 : n ≤ 9223372036854775807) : IntKind.i64.wrap n = n := by
  simp [IntKind.wrap, IntKind.bits, IntKind.signed]
  omega
theorem OwI.cell' {w : World} {base n cap : Nat} {ao : Option Addr} {l : List Int} (h : OwI w base (.slice ao n cap) l) {i : Nat} (hi : i < l.length) : ∃ g, ao = some ⟨g, 0, none⟩ ∧ w.cell? ⟨g, i, none⟩ = some (.int .i64 (l.getD i 0)) := by
  obtain ⟨ao', cap', e, _, h'⟩ := h.at
  simp only [Value.slice.injEq] at e
  obtain ⟨rfl, _, _⟩ := e
  obtain ⟨g, rfl, hc⟩ := h' (by rintro rfl; simp at hi)
  exact ⟨g, rfl, hc i hi⟩
set_option maxHeartbeats 2000000 in
set_option maxRecDepth 100000 in
theorem rlive_any (h : Rb w C S I base sv vD vW b die) (hw : Wf b) (hd : die.length ≤ 4398046511000) :
    Calls Try.prog 48 #[.pointer (some ⟨C, 0, none⟩)] w fun x w' => x = .returned (.int .i64 (((heldL b).length : Int) + (die.length : Int))) ∧ Fr w w' (fun _ => False) := by
  have H := hid h
  have HF := hid (Fr.refl w (fun _ => False))
  obtain ⟨a4, c4, rfl, _, _⟩ := h.dO.at
  have hl := len_hF hw 65 (Nat.le_refl _)
  rw [hF_held] at hl
  have hl1 : ((heldL b).length : Int) ≤ 4225 := by omega
  have hl2 : (die.length : Int) ≤ 4398046511000 := by omega
  clear hl
  have HHc : Hid (∀ W', Rb W' C S I base sv (.slice a4 die.length c4) vW b die → Calls Try.prog 47 #[.pointer (some ⟨C, 0, none⟩)] W' fun e w' => ∃ a3 c3, e = .returned (.slice a3 (heldL b).length c3) ∧ Rb w' C S I base sv (.slice a4 die.length c4) vW b die ∧ Fr W' w' (fun _ => False)) := fun W' hr => by
    refine (rheld_any hr hw).mono ?_
    rintro e w' ⟨v', rfl, ho', hf⟩
    obtain ⟨a3, c3, rfl, _, _⟩ := ho'.at
    exact ⟨a3, c3, rfl, hr.step hf, hf⟩
  have HHd : Hid (∀ W', Rb W' C S I base sv (.slice a4 die.length c4) vW b die → W'.cell? ⟨C, 4, none⟩ = some (.slice a4 die.length c4) ∧ C < W'.heap.size) := fun W' hr => ⟨hr.cells.2.2.2.2.1, lt_of_block hr.cell⟩
  clear h
  generalize heldL b = HL at *
  go_enter Try.func48, Try.ntmps48
  go_wp2_with fail
  go_region_held3 (fun W' => W'.cell? ⟨C, 4, none⟩ = some (.slice a4 die.length c4) ∧ C < W'.heap.size)
    ((refine HHd.out _ ?_; first | with_reducible exact H.out | with_reducible exact Rb.drew H.out | with_reducible exact Rb.drew (Rb.drew H.out)))
    ((go_at_call 47; with_reducible refine (HHc.out _ (by first | with_reducible exact H.out | with_reducible exact Rb.drew H.out | with_reducible exact Rb.drew (Rb.drew H.out))).mono ?_; rintro xe w10 ⟨a3, c3, rfl, hr, hf⟩; have HF := hid (show Fr w w10 (fun _ => False) from HF.out.trans (by first | exact hf | exact Fr.ofDrew hf | exact Fr.ofDrew (Fr.ofDrew hf))); have H := hid hr; clear hf hr))
  all_goals (go_wp2_with fail)
  all_goals go_ret
  all_goals refine ⟨?_, HF.out⟩
  all_goals (show Ending.returned (.int .i64 (IntKind.i64.wrap ((HL.length : Int) + (die.length : Int)))) = _)
  all_goals rw [wrapI (by omega) (by omega)]

/-- The document's Drop: letting go of one after the other. -/
def dropD (b : Bo) (die : List Int) (l : List Int) : List Int := l.foldl (fun d e => looseD b d e) die
theorem looseD_len (b : Bo) (die : List Int) (e : Int) : (looseD b die e).length ≤ die.length + 1 := by
  unfold looseD
  split
  · omega
  · exact len_ins e die
theorem dropD_len (b : Bo) : ∀ (l die : List Int), (dropD b die l).length ≤ die.length + l.length
  | [], die => by simp [dropD]
  | e :: l, die => by
    have h1 := dropD_len b l (looseD b die e)
    have h2 := looseD_len b die e
    show (dropD b (looseD b die e) l).length ≤ _
    simp only [List.length_cons]
    omega
theorem dropD_snoc (b : Bo) (die l : List Int) {i : Nat} (hi : i < l.length) : dropD b die (l.take (i + 1)) = looseD b (dropD b die (l.take i)) (l.getD i 0) := by
  unfold dropD
  rw [List.take_add_one, List.foldl_append, List.getElem?_eq_getElem hi]
  simp [List.getD, hi]
def clrS (b : Bo) (k : Nat) : Bo := { b with sets := upd b.sets k [] }
/-- Drop, as the document has it. -/
def dropR (b : Bo) (o : Int) : Bo := if may o = false then b else doneR (clrS b o.toNat) o
def dropRD (b : Bo) (die : List Int) (o : Int) : List Int := if may o = false then die else doneD (clrS b o.toNat) (dropD (clrS b o.toNat) die (b.sets o.toNat)) o
set_option maxHeartbeats 2000000 in
set_option maxRecDepth 100000 in
theorem rdrop_any (h : Rb w C S I base sv vD vW b die) (hw : Wf b) (hd : die.length ≤ 4398046510000) (o : Int) :
    Calls Try.prog 44 #[.pointer (some ⟨C, 0, none⟩), .int .i64 o] w fun x w' => x = .returned (.int .i64 (dropN b o)) ∧ Rl w w' C S I base (dropR b o) (dropRD b die o) := by
  have H := hid h
  have HW := hid hw
  have hR0 : Rl w w C S I base b die := ⟨⟨_, _, _, h⟩, Fr.refl _ _⟩
  have HR0 := hid hR0
  clear h hR0
  go_enter Try.func44, Try.ntmps44
  go_wp2_with fail
  refine (owner_any o _).mono ?_
  rintro x w1 ⟨rfl, rfl⟩
  cases hm0 : may o with
  | false =>
    have E0 := hid (show dropN b o = 0 by unfold dropN; rw [if_pos hm0])
    have E1 := hid (show dropR b o = b by unfold dropR; rw [if_pos hm0])
    have E2 := hid (show dropRD b die o = die by unfold dropRD; rw [if_pos hm0])
    clear hm0
    go_wp2_with fail
    go_ret
    rw [E0.out, E1.out, E2.out]
    exact ⟨rfl, HR0.out⟩
  | true =>
    obtain ⟨o1, o2, o3⟩ := may_err hm0
    have HM := hid hm0
    obtain ⟨k, hk⟩ : ∃ k : Nat, k = o.toNat := ⟨_, rfl⟩
    rw [← hk] at o1 o2 o3
    subst o3
    clear hk hm0
    have E1 := hid (show dropR b (k : Int) = doneR (clrS b k) (k : Int) by unfold dropR; rw [if_neg (by simp [HM.out]), Int.toNat_natCast])
    have E2 := hid (show dropRD b die (k : Int) = doneD (clrS b k) (dropD (clrS b k) die (b.sets k)) (k : Int) by unfold dropRD; rw [if_neg (by simp [HM.out]), Int.toNat_natCast])
    obtain ⟨x0, x1, x2, x3, _, _, _⟩ := H.out.cells
    have xs := H.out.s o1
    have HO := hid (H.out.so k o1)
    obtain ⟨a1, c1, e1, _, _⟩ := HO.out.at
    rw [e1] at xs HO
    have lC := lt_of_block H.out.cell
    have lS := lt_of_block H.out.sc
    have fS := H.out.freeS k
    have k1 : (k : Int) < 65 := by omega
    have hfew := HW.out.few k o1
    have hpin := HW.out.pins
    have hln : (b.sets k).length ≤ 64 := by omega
    have HRy : Hid (Rb (w1.setCell ⟨S, k, none⟩ (.slice none 0 0)) C S I base (upd sv k (.slice none 0 0)) vD vW (clrS b k) die) := H.out.pokeS o1 o2 (World.ownsRow_nil _ _ _ _)
    have HWy : Hid (Wf (clrS b k)) := HW.out.put (by simp) (fun x hx => by cases hx) (fun _ => by show ((0 : Nat) : Int) ≤ b.pins; omega)
    have HFy := hid ((Fr.refl w1 (RS C S I)).setCell (p := ⟨S, k, none⟩) (fun _ => Or.inr (Or.inl rfl)) (.slice none 0 0))
    have HOy := hid (HO.out.poke (k := S) (p := k) (u := .slice none 0 0) H.out.lo.2.1)
    go_wp2_with fail
    clear x0 x1 x2 x3 xs lC lS fS
    generalize w1.setCell ⟨S, k, none⟩ (.slice none 0 0) = wy at *
    show Code.wp _ _ _ _ _
    go_loopg [6] (b.sets k).length (fun g s6 wx => ∃ i : Nat, s6 = .int .i64 (i : Int) ∧ i + g = (b.sets k).length ∧ Hid (∃ sv vD vW, Rb wx C S I base sv vD vW (clrS b k) (dropD (clrS b k) die ((b.sets k).take i))) ∧ Hid (Fr w1 wx (RS C S I)) ∧ Hid (OwI wx base (.slice a1 (b.sets k).length c1) (b.sets k)))
    case atStart => exact ⟨0, rfl, by omega, ⟨_, _, _, HRy.out⟩, HFy, HOy⟩
    case round =>
      clear HRy HFy HOy HO
      obtain ⟨i, rfl, hg, HRi, HFi, HOi⟩ := hrel
      obtain ⟨sv1, vD1, vW1, hri⟩ := HRi.out
      have HR1 := hid hri
      clear hri HRi
      have hdl := dropD_len (clrS b k) ((b.sets k).take i) die
      have htl : ((b.sets k).take i).length ≤ (b.sets k).length := by simp; omega
      have HDl := hid (show (dropD (clrS b k) die ((b.sets k).take i)).length ≤ 4398046511000 by omega)
      cases gk with
      | zero =>
        have t1 : ¬ (i : Int) < ((b.sets k).length : Int) := by omega
        have ei : (b.sets k).take i = b.sets k := by rw [show i = (b.sets k).length by omega, List.take_length]
        rw [ei] at HR1 HDl
        clear hg ei hdl htl
        have hdn := hid (show doneErr (clrS b k) (k : Int) = if b.inn k = 0 then 44 else 0 by unfold doneErr; rw [if_neg (by simp [HM.out]), Int.toNat_natCast]; rfl)
        by_cases hz : b.inn k = 0
        · have E3 : doneErr (clrS b k) (k : Int) = 44 := by rw [hdn.out, if_pos hz]
          have E0 := hid (show dropN b (k : Int) = ((b.sets k).length : Int) by unfold dropN lst; rw [if_neg (by simp [HM.out]), Int.toNat_natCast, if_pos hz, List.append_nil])
          have HE3 := hid E3
          clear E3
          go_wp2_with fail
          refine (rdone_any HR1.out HWy.out HDl.out (k : Int)).mono ?_
          rintro x w5 ⟨rfl, hr, hf⟩
          rw [HE3.out]
          have HRl := hid hr
          have HFl := hid hf
          clear hr hf
          go_wp2_with fail
          go_ret
          rw [E0.out, E1.out, E2.out]
          exact ⟨rfl, HRl.out, HFi.out.trans HFl.out⟩
        · have E3 : doneErr (clrS b k) (k : Int) = 0 := by rw [hdn.out, if_neg hz]
          have E0 := hid (show dropN b (k : Int) = ((b.sets k).length : Int) + 1 by unfold dropN lst; rw [if_neg (by simp [HM.out]), Int.toNat_natCast, if_neg hz, List.length_append]; simp)
          have HE3 := hid E3
          clear E3
          go_wp2_with fail
          refine (rdone_any HR1.out HWy.out HDl.out (k : Int)).mono ?_
          rintro x w5 ⟨rfl, hr, hf⟩
          rw [HE3.out]
          have HRl := hid hr
          have HFl := hid hf
          clear hr hf
          go_wp2_with fail
          go_ret
          rw [E0.out, E1.out, E2.out]
          exact ⟨rfl, HRl.out, HFi.out.trans HFl.out⟩
      | succ g =>
        have hi : i < (b.sets k).length := by omega
        have t1 : (i : Int) < ((b.sets k).length : Int) := by omega
        obtain ⟨g9, rfl, cx⟩ := HOi.out.cell' hi
        have bx := World.block_lt_of_cell? wr _ cx
        dsimp only at bx
        have HSt := hid (dropD_snoc (clrS b k) die (b.sets k) hi)
        have HG := hid hg
        generalize (b.sets k).getD i 0 = x at *
        clear hg hdl htl hi
        go_wp2_with fail
        refine (rloose_any HR1.out HWy.out HDl.out x).mono ?_
        rintro y w5 ⟨rfl, hr, hf⟩
        have HRl := hid hr
        have HFl := hid (HFi.out.trans hf)
        have HOl := hid (HOi.out.fr hf (fun j hj e => by
          have h1 := (World.ownsRow.lt HOi.out j hj).1
          have h2 := HR1.out.lo
          rcases e with e | e | e <;> omega))
        clear hr hf
        go_wp2_with fail
        go_roundg g
        case rel => exact ⟨i + 1, by simp, by have := HG.out; omega, by rw [HSt.out]; exact HRl, HFl, HOl⟩
        case measure => omega
end
end Go.Proofs.Ytekooeekaigmaaa.E
