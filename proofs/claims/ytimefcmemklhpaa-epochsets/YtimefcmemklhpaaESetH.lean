/- EpochSets: held: the book holds just what the law's own sets say. -/
import Derived.Test.YtimefcmemklhpaaESetM
namespace Go.Proofs.Ytimefcmemklhpaa.E
open Go.RowKit Go.Maps Go.MuLone

theorem fS_in' {sM : Nat → Nat} {k : Nat} (h : Ow (k + 1)) : fS sM ((k : Int) + 1) = some (sM (k + 1)) := fS_in (i := k + 1) h
theorem fJ_in' {v : Nat → Int} {k : Nat} (h : Ow (k + 1)) : fJ v ((k : Int) + 1) = v (k + 1) := fJ_in (i := k + 1) h
theorem holds_in {b : Bo} {k : Nat} (h : Ow (k + 1)) (e : Int) : holdsB b ((k : Int) + 1) e = hasB (b.sets (k + 1)) e := by
  unfold holdsB
  rw [show may ((k : Int) + 1) = true by simp only [may, Bool.and_eq_true, decide_eq_true_eq]; omega]
  rfl
theorem ranges_fr {w w' : World} {S : Nat → Prop} {k : TypeId} {R : Value → Option (DataW Unit × List MemPlace)} {b r n : Nat} {D : DataW Unit} {left : Lit → Bool} {cnt : Nat} (h : w.ranges Try.prog k R b r n D left cnt) (hf : Fr w w' S) (hb : ¬ S b) (hr : ¬ S r) : w'.ranges Try.prog k R b r n D left cnt := by
  have h1 := h.owns.lt
  have h2 := h.lt
  obtain ⟨es, clock, since, seen, c0, hbk, F, hs, hD, hr', rest⟩ := h
  exact ⟨es, clock, since, seen, c0, (hf.block b h1 hb).trans hbk, F, hs, hD, (hf.block r h2 hr).trans hr', rest⟩
theorem grown_fr {w w' : World} {b : Nat} (h : w.grownBy w' (some b)) : Fr w w' (fun k => k = b) := (Fr.refl w _).grown h (fun k _ e => by cases e; rfl)
/-- What stands between two rounds of held's first loop. -/
structure Hl (W wx : World) (A : Nat) (b : Bo) (k : Nat) (G L : List Int) : Prop where
  mb : Mb wx A L
  al : Al b k G L
  lo : ∀ x ∈ G, 1 ≤ x ∧ x < b.now
  fr : Fr W wx (fun _ => False)
  hA : W.heap.size ≤ A
theorem Hl.len {W wx : World} {A : Nat} {b : Bo} {k : Nat} {G L : List Int} (h : Hl W wx A b k G L) (w : Wf b) : L.length ≤ b.now.toNat := ri_len h.al.1 (h.al.lo w h.lo)
theorem Hl.step {W wx wy : World} {A : Nat} {b : Bo} {k : Nat} {G L : List Int} (h : Hl W wx A b k G L) (hf : Fr wx wy (fun _ => False)) : Hl W wy A b k G L := ⟨h.mb.fr hf (fun h => h), h.al, h.lo, h.fr.trans hf, h.hA⟩
theorem Hl.put {W wx wy : World} {A : Nat} {b : Bo} {k : Nat} {G L : List Int} (h : Hl W wx A b k G L) {x : Int} (hx : 1 ≤ x ∧ x < b.now) (hm : Mb wy A (ins x L)) (hg : wx.grownBy wy (some A)) : Hl W wy A b k (x :: G) (ins x L) :=
  ⟨hm, h.al.add x, fun y hy => by rcases List.mem_cons.1 hy with rfl | hy; exact hx; exact h.lo y hy, h.fr.trans2 (grown_fr hg) (fun k hk e => by have := h.hA; omega), h.hA⟩
/-- .. and of the second. -/
structure Rh (W wx : World) (A S r : Nat) (b : Bo) (k : Nat) (D : DataW Unit) (n cnt : Nat) (left : Lit → Bool) (G L : List Int) : Prop where
  rg : wx.ranges Try.prog 3 (plainElem Try.prog 4) S r n D left cnt
  inl : ∀ x, left (.int .i64 x) = true → x ∈ b.sets (k + 1)
  all : ∀ x ∈ b.sets (k + 1), x ∈ G ∨ left (.int .i64 x) = true
  sub : ∀ x ∈ G, x ∈ b.sets (k + 1)
  hl : Hl W wx A b k G L
theorem Rh.next {W wx wy wz : World} {A S r : Nat} {b : Bo} {k : Nat} {D : DataW Unit} {n cnt cnt' : Nat} {left : Lit → Bool} {G L : List Int} (h : Rh W wx A S r b k D n cnt left G L) (w : Wf b) (hW : W.heap.size ≤ r) (hAr : A ≠ r) (hAS : A ≠ S) {x : Int} (hx : left (.int .i64 x) = true)
    (hr : wy.ranges Try.prog 3 (plainElem Try.prog 4) S r n D (fun z => left z && !z.sameKey (.int .i64 x)) cnt') (hg : wx.grownBy wy (some r)) (hm : Mb wz A (ins x L)) (hg2 : wy.grownBy wz (some A)) :
    Rh W wz A S r b k D n cnt' (fun z => left z && !z.sameKey (.int .i64 x)) (x :: G) (ins x L) := by
  have hxl := h.inl x hx
  have h1 : Hl W wy A b k G L := ⟨h.hl.mb.fr (grown_fr hg) hAr, h.hl.al, h.hl.lo, h.hl.fr.trans2 (grown_fr hg) (fun k hk e => by omega), h.hl.hA⟩
  refine ⟨ranges_fr hr (grown_fr hg2) (fun e => hAS e.symm) (fun e => hAr e.symm), fun y hy => h.inl y (by simp only [Bool.and_eq_true] at hy; exact hy.1), fun y hy => ?_, fun y hy => ?_, h1.put (w.lo (k + 1) x hxl) hm hg2⟩
  · by_cases e : y = x
    · subst e; exact Or.inl (List.mem_cons_self ..)
    · rcases h.all y hy with h' | h'
      · exact Or.inl (List.mem_cons_of_mem _ h')
      · refine Or.inr ?_
        rw [h', sameKey_ne (a := .int .i64 y) (b := .int .i64 x) (fun e' => e (by simpa using e'))]
        rfl
  · rcases List.mem_cons.1 hy with rfl | hy
    · exact hxl
    · exact h.sub y hy

set_option maxHeartbeats 4000000 in
set_option maxRecDepth 100000 in
theorem held2_any {w W : World} {B M J n n' : Nat} {sM : Nat → Nat} {b : Bo} (h : Sx w W B M J sM b b.sets b.inn n n') (h0 : b.sets 0 = []) (h1 : b.inn 0 = 0) (hb : b.now ≤ 5000) :
    Calls Try.prog 25 #[.pointer (some ⟨B, 0, none⟩), .map (some M), .map (some J)] W fun e w' => e = .returned (.bool true) ∧ Fr W w' (fun _ => False) := by
  have HS := hid h
  have HW := hid h.wf
  have HB := hid hb
  have H01 := hid (And.intro h0 h1)
  have HLT : Hid (M < W.heap.size ∧ J < W.heap.size ∧ ∀ i, Ow i → sM i < W.heap.size) := ⟨h.mm.lt, h.mi.lt, fun i hi => (h.mb hi).lt⟩
  clear h h0 h1 hb
  have hmm := @run_makeMap Try.prog
  go_enter Try.func25, Try.ntmps25
  go_wp2_with fail
  clear hmm
  have HL0 : Hid (Hl W (W.alloc (.map #[] 0)) W.heap.size b 0 [] []) := ⟨Mb.new W, Al.start b, fun x hx => (by cases hx), alloc_fr _ _ _, Nat.le_refl _⟩
  generalize W.alloc (.map #[] 0) = W1 at *
  have HNA : Hid (∀ i, Ow i → W.heap.size ≠ sM i) := fun i hi e => by have := HLT.out.2.2 i hi; omega
  have HA := hid (show W.heap.size ≤ W.heap.size from Nat.le_refl _)
  generalize hAe : W.heap.size = A at *
  have HAE := hid hAe
  clear hAe
  show Code.wp _ _ _ _ _
  go_loopg [8] 64 (fun g s8 wx => ∃ (k : Nat) (L : List Int), s8 = .int .i64 ((k : Int) + 1) ∧ k + g = 64 ∧ Hid (Hl W wx A b k [] L))
  case atStart => exact ⟨0, [], rfl, by omega, HL0⟩
  case round =>
    obtain ⟨k, L, rfl, hg, HL⟩ := hrel
    clear HL0
    cases gk with
    | zero =>
      obtain rfl : k = 64 := by omega
      have HEQ := hid (HL.out.al.all H01.out.1 H01.out.2)
      clear hg
      go_wp2_with fail
      refine ((HS.out.step HL.out.fr).ask (fun m hb => heldM_any hb)).mono ?_
      rintro e y1 ⟨v11, rfl, ho, hf⟩
      have HL := hid (HL.out.step hf)
      have HO := hid ho
      rw [← HEQ.out] at HO
      obtain ⟨ao, cap, rfl, _, _⟩ := HO.out.at
      clear hf ho
      generalize wr.heap.size = base at *
      have hll : L.length ≤ 5000 := by have := HL.out.len HW.out; have := HB.out; omega
      go_wp2_with fail
      go_loopg [12] L.length (fun g s12 wx => ∃ (i : Nat), s12 = .int .i64 (i : Int) ∧ i + g = L.length ∧ Hid (Hl W wx A b 64 [] L) ∧ Hid (OwI wx base (.slice ao L.length cap) L))
      case atStart => exact ⟨0, rfl, by omega, HL, HO⟩
      case round =>
        obtain ⟨i, rfl, hgi, HL, HO⟩ := hrel
        cases gk with
        | zero =>
          have t1 : ¬ (i : Int) < (L.length : Int) := by omega
          have hlen : ∀ ty, (Builtin.len_ #[49] ty #[.map (some A)]).run Try.prog wr = .ok (.int .i64 (L.length : Int)) wr := fun ty => HL.out.mb.len ty
          have HHo : Hid (∀ (o : Int) V, may o = false → Fr W V (fun _ => False) → Calls Try.prog 15 #[.pointer (some ⟨B, 0, none⟩), .int .i64 o, .int .i64 1] V fun x w' => x = .returned (.bool false) ∧ Fr V w' (fun _ => False)) := fun o V ho hf => by
            have := (HS.out.step hf).ask (fun m hb => holds_any hb o 1 (by unfold fits; omega))
            rwa [show holdsB b o 1 = false by unfold holdsB; rw [ho]; rfl] at this
          go_wp2_with fail
          refine (HHo.out 0 _ rfl HL.out.fr).mono ?_
          rintro e z1 ⟨rfl, hf⟩
          have HF1 := hid (HL.out.fr.trans hf)
          clear hf
          go_wp2_with fail
          refine (HHo.out 65 _ rfl HF1.out).mono ?_
          rintro e z2 ⟨rfl, hf⟩
          have HF2 := hid (HF1.out.trans hf)
          clear hf
          go_wp2_with fail
          refine (HHo.out (-1) _ rfl HF2.out).mono ?_
          rintro e z3 ⟨rfl, hf⟩
          have HF3 := hid (HF2.out.trans hf)
          clear hf
          go_wp2_with fail
          go_ret
          exact ⟨rfl, HF3.out⟩
        | succ g =>
          have hi : i < L.length := by omega
          have t1 : (i : Int) < (L.length : Int) := by omega
          obtain ⟨g1, rfl, hc⟩ := HO.out.cell hi
          have hx : L.getD i 0 ∈ L := by rw [List.getD_eq_getElem?_getD, List.getElem?_eq_getElem hi]; exact List.getElem_mem hi
          have HFx : Hid (fits (L.getD i 0)) := by have := HL.out.al.lo HW.out HL.out.lo _ hx; have := HB.out; show fits _; unfold fits; omega
          have hk := HL.out.mb.look (fits_wf HFx.out)
          rw [hasB_true.2 hx] at hk
          have HGI := hid hgi
          clear hgi hx
          generalize L.getD i 0 = x at *
          go_wp2_with fail
          go_roundg g
          case rel => exact ⟨i + 1, by simp, by have := HGI.out; omega, HL, HO⟩
          case measure => omega
    | succ g =>
      have HG := hid hg
      have HK := hid (show k < 64 by omega)
      have HOw : Hid (Ow (k + 1)) := ⟨by omega, by have := HK.out; omega⟩
      have t0 : ((k : Int) + 1) ≤ 64 := by have := HK.out; omega
      have HSx := hid (HS.out.step HL.out.fr)
      have l20 : (Instr.lookup 48 (.map (some M)) (.int .i64 ((k : Int) + 1)) false).run Try.prog wr = .ok (.map (some (sM (k + 1)))) wr := by
        have := HSx.out.mm.look (e := (k : Int) + 1) (WalkArith.wf_i64 (by omega))
        rw [fS_in' HOw.out] at this
        exact this
      obtain ⟨D, hown, hhas, hat, hsz⟩ := HSx.out.mb HOw.out
      have HHas := hid hhas
      clear hg hhas hat HSx
      go_wp2_with (first
        | (at_range; refine wpList_range_own _ rfl _ 49 rfl 3 4 law Try.underlying49 _ (sM (k + 1)) (b.sets (k + 1)).length D rfl hown ?_; intro w0 hrg0 hg0 hs0)
        | go_in)
      go_frame
      have HG0 : Hid (Fr wr w0 (fun _ => False)) := ⟨hg0.os, hg0.tape, hg0.output, hg0.size, fun i hi _ => hg0.block i hi (by simp)⟩
      have HR0 : Hid (∃ left G L2, Rh W w0 A (sM (k + 1)) wr.heap.size b k D (b.sets (k + 1)).length (Maps.size D) left G L2) :=
        ⟨_, [], L, hrg0, fun x hx => hasB_true.1 ((HHas.out x).symm.trans hx), fun x hx => Or.inr ((HHas.out x).trans (hasB_true.2 hx)), fun x hx => (by cases hx), HL.out.step HG0.out⟩
      have HRB : Hid (W.heap.size ≤ wr.heap.size ∧ A ≠ wr.heap.size) := ⟨HL.out.fr.size, fun e => by have := HL.out.mb.lt; omega⟩
      clear hrg0 hg0 hs0 HG0 hown l20 HHas hsz HL
      generalize wr.heap.size = r at *
      go_loopg [9] (Maps.size D) (fun n s9 wx => Hid (∃ left G L2, Rh W wx A (sM (k + 1)) r b k D (b.sets (k + 1)).length n left G L2))
      case atStart => exact HR0
      case round =>
        obtain ⟨left, G, L2, HRx⟩ := hrel.out
        have HR := hid HRx
        have hrg := HR.out.rg
        clear HR0 HRx
        go_wp2_with (first
          | (at_next; refine wpList_next_ranges _ rfl _ rfl 3 law (plainElem Try.prog 4) (Value.int .i64) Value.bool (fun key kl hkey => by obtain ⟨x, rfl, _⟩ := Maps.keyOf_int_inv Try.underlying3 hkey; exact ⟨x, rfl⟩) (fun v y hv => by obtain ⟨c, rfl, _⟩ := plainB_inv hv; exact ⟨c, rfl⟩) (sM (k + 1)) r (b.sets (k + 1)).length _ _ _ rfl hrg ?_ ?_)
          | go_in)
        · -- nothing is left
          intro _ hl0
          have HGs : Hid (∀ x, x ∈ G ↔ x ∈ b.sets (k + 1)) := fun x => ⟨HR.out.sub x, fun h => (HR.out.all x h).resolve_right (by rw [hl0]; simp)⟩
          have HL := hid HR.out.hl
          have HSx := hid (HS.out.step HL.out.fr)
          have l30 : (Instr.lookup 42 (.map (some J)) (.int .i64 ((k : Int) + 1)) false).run Try.prog wr = .ok (.int .i64 (b.inn (k + 1))) wr := by
            have := HSx.out.mi.look (e := (k : Int) + 1) (WalkArith.wf_i64 (by omega))
            rw [fJ_in' HOw.out] at this
            exact this
          clear hl0 HR hrg HSx
          by_cases hi0 : b.inn (k + 1) = 0
          · have HL : Hid (Hl W wr A b (k + 1) [] L2) := ⟨HL.out.mb, HL.out.al.next (fun x => by rw [HGs.out x, mem_lst]; simp [hi0]), (fun x hx => by cases hx), HL.out.fr, HL.out.hA⟩
            rw [hi0] at l30
            clear HGs
            go_wp2_with fail
            go_loopg [10] (b.now.toNat + 1) (fun g s10 wx => ∃ j : Nat, s10 = .int .i64 (j : Int) ∧ j + g = b.now.toNat + 1 ∧ Hid (Hl W wx A b (k + 1) [] L2))
            case atStart => exact ⟨0, rfl, by omega, HL⟩
            case round =>
              obtain ⟨j, rfl, hgj, HL⟩ := hrel
              have HGJ := hid hgj
              clear hgj
              go_wp2_with fail
              refine ((HS.out.step HL.out.fr).ask (fun m hb => now_any hb)).mono ?_
              rintro e y1 ⟨rfl, hf⟩
              have HL := hid (HL.out.step hf)
              clear hf
              cases gk with
              | zero =>
                have t3 : ¬ (j : Int) ≤ b.now := by have := HGJ.out; have := HW.out.now; omega
                go_wp2_with fail
                go_roundg g
                case rel => exact ⟨k + 1, L2, by simp, by have := HG.out; omega, HL⟩
                case measure => omega
              | succ g2 =>
                have t3 : (j : Int) ≤ b.now := by have := HGJ.out; have := HW.out.now; omega
                have t4 : j < 6000 := by have := HB.out; omega
                have HFJ : Hid (fits (j : Int)) := by have := HB.out; show fits _; unfold fits; omega
                go_wp2_with fail
                have HSy := hid (HS.out.step HL.out.fr)
                have HLK : Hid (∀ V, Fr y1 V (fun _ => False) → (Instr.lookup 48 (.map (some M)) (.int .i64 ((k : Int) + 1)) false).run Try.prog V = .ok (.map (some (sM (k + 1)))) V ∧ (Instr.lookup 49 (.map (some (sM (k + 1)))) (.int .i64 (j : Int)) false).run Try.prog V = .ok (.bool (hasB (b.sets (k + 1)) (j : Int))) V) := fun V hf => by
                  have hs := HSy.out.step hf
                  refine ⟨?_, (hs.mb HOw.out).look (fits_wf HFJ.out)⟩
                  have := hs.mm.look (e := (k : Int) + 1) (WalkArith.wf_i64 (by omega))
                  rw [fS_in' HOw.out] at this
                  exact this
                have HHo : Hid (∀ V, Fr y1 V (fun _ => False) → Calls Try.prog 15 #[.pointer (some ⟨B, 0, none⟩), .int .i64 ((k : Int) + 1), .int .i64 (j : Int)] V fun x w' => x = .returned (.bool (hasB (b.sets (k + 1)) (j : Int))) ∧ Fr V w' (fun _ => False)) := fun V hf => by
                  have := (HSy.out.step hf).ask (fun m hb => holds_any hb ((k : Int) + 1) (j : Int) HFJ.out)
                  rwa [show holdsB b ((k : Int) + 1) (j : Int) = hasB (b.sets (k + 1)) (j : Int) from holds_in HOw.out _] at this
                generalize hasB (b.sets (k + 1)) (j : Int) = hh at *
                obtain ⟨l1, l2⟩ := HLK.out y1 (Fr.refl _ _)
                have HF0 := hid (Fr.refl y1 (fun _ => False))
                clear HSy
                go_cut [51] from 42 to 51 (fun s wx => s = .bool false ∧ Hid (Fr y1 wx (fun _ => False)))
                case first =>
                  go_region_held3 (fun V => Hid (Fr y1 V (fun _ => False)) ∧ (Instr.lookup 48 (.map (some M)) (.int .i64 ((k : Int) + 1)) false).run Try.prog V = .ok (.map (some (sM (k + 1)))) V ∧ (Instr.lookup 49 (.map (some (sM (k + 1)))) (.int .i64 (j : Int)) false).run Try.prog V = .ok (.bool hh) V)
                    ((refine (fun h => ⟨h, HLK.out _ h⟩ : Fr y1 _ (fun _ => False) → _) ?_; repeat (first | with_reducible exact HF0.out | with_reducible exact Fr.refl _ _ | with_reducible apply Fr.drew | with_reducible apply Fr.alloc)))
                    ((go_at_call 15; refine (HHo.out _ (by repeat (first | with_reducible exact HF0.out | with_reducible exact Fr.refl _ _ | with_reducible apply Fr.drew | with_reducible apply Fr.alloc))).mono ?_; rintro x1 w1 ⟨rfl, hf⟩; have HF0 := hid (Fr.trans (a := y1) (by repeat (first | with_reducible exact HF0.out | with_reducible exact Fr.refl _ _ | with_reducible apply Fr.drew | with_reducible apply Fr.alloc)) hf); clear hf))
                  all_goals (go_wp2_with fail)
                  all_goals go_meet
                  all_goals exact ⟨by cases hh <;> rfl, HF0.out⟩
                case rest =>
                  obtain ⟨rfl, HX⟩ := hcut
                  have HL := hid (HL.out.step HX.out)
                  go_wp2_with fail
                  go_roundg g2
                  case rel => exact ⟨j + 1, by simp, by have := HGJ.out; omega, HL⟩
                  case measure => omega
          · have hi1 : (b.inn (k + 1) == 0) = false := by simp [hi0]
            have hi2 : (b.inn (k + 1) != 0) = true := by simp [hi0]
            have hi3 : decide (b.inn (k + 1) = 0) = false := by simp [hi0]
            have HIx : Hid (1 ≤ b.inn (k + 1) ∧ b.inn (k + 1) < b.now) := by have := HW.out.inn (k + 1); show 1 ≤ _ ∧ _; omega
            have HLl : Hid (L2.length < maxLen) := by have := HL.out.len HW.out; have := HB.out; show L2.length < maxLen; unfold maxLen; omega
            have HFi : Hid (fits (b.inn (k + 1))) := by have := HIx.out; have := HB.out; show fits _; unfold fits; omega
            have HNx : Hid (∀ x, x ∈ b.inn (k + 1) :: G ↔ x ∈ lst b (k + 1)) := fun x => by
              rw [List.mem_cons, HGs.out x, mem_lst]
              constructor
              · rintro (h | h)
                · exact Or.inr ⟨hi0, h⟩
                · exact Or.inl h
              · rintro (h | ⟨_, h⟩)
                · exact Or.inr h
                · exact Or.inl h
            clear HGs
            go_wp2_with (at_mapUpdate; go_must (refine wpl_mb rfl _ _ _ rfl A L2 (b.inn (k + 1)) rfl rfl rfl HL.out.mb HL.out.al.1 HLl.out HFi.out ?_))
            intro w3 hm3 hg3
            have HL3 := hid (HL.out.put HIx.out hm3 hg3)
            have HL : Hid (Hl W w3 A b (k + 1) [] (ins (b.inn (k + 1)) L2)) := ⟨HL3.out.mb, HL3.out.al.next HNx.out, (fun x hx => by cases hx), HL3.out.fr, HL3.out.hA⟩
            clear HL3 HNx hm3 hg3 l30 HLl
            generalize ins (b.inn (k + 1)) L2 = L2 at *
            clear hi0 hi1 hi2 hi3 HIx HFi
            go_wp2_with fail
            go_loopg [10] (b.now.toNat + 1) (fun g s10 wx => ∃ j : Nat, s10 = .int .i64 (j : Int) ∧ j + g = b.now.toNat + 1 ∧ Hid (Hl W wx A b (k + 1) [] L2))
            case atStart => exact ⟨0, rfl, by omega, HL⟩
            case round =>
              obtain ⟨j, rfl, hgj, HL⟩ := hrel
              have HGJ := hid hgj
              clear hgj
              go_wp2_with fail
              refine ((HS.out.step HL.out.fr).ask (fun m hb => now_any hb)).mono ?_
              rintro e y1 ⟨rfl, hf⟩
              have HL := hid (HL.out.step hf)
              clear hf
              cases gk with
              | zero =>
                have t3 : ¬ (j : Int) ≤ b.now := by have := HGJ.out; have := HW.out.now; omega
                go_wp2_with fail
                go_roundg g
                case rel => exact ⟨k + 1, L2, by simp, by have := HG.out; omega, HL⟩
                case measure => omega
              | succ g2 =>
                have t3 : (j : Int) ≤ b.now := by have := HGJ.out; have := HW.out.now; omega
                have t4 : j < 6000 := by have := HB.out; omega
                have HFJ : Hid (fits (j : Int)) := by have := HB.out; show fits _; unfold fits; omega
                go_wp2_with fail
                have HSy := hid (HS.out.step HL.out.fr)
                have HLK : Hid (∀ V, Fr y1 V (fun _ => False) → (Instr.lookup 48 (.map (some M)) (.int .i64 ((k : Int) + 1)) false).run Try.prog V = .ok (.map (some (sM (k + 1)))) V ∧ (Instr.lookup 49 (.map (some (sM (k + 1)))) (.int .i64 (j : Int)) false).run Try.prog V = .ok (.bool (hasB (b.sets (k + 1)) (j : Int))) V) := fun V hf => by
                  have hs := HSy.out.step hf
                  refine ⟨?_, (hs.mb HOw.out).look (fits_wf HFJ.out)⟩
                  have := hs.mm.look (e := (k : Int) + 1) (WalkArith.wf_i64 (by omega))
                  rw [fS_in' HOw.out] at this
                  exact this
                have HHo : Hid (∀ V, Fr y1 V (fun _ => False) → Calls Try.prog 15 #[.pointer (some ⟨B, 0, none⟩), .int .i64 ((k : Int) + 1), .int .i64 (j : Int)] V fun x w' => x = .returned (.bool (hasB (b.sets (k + 1)) (j : Int))) ∧ Fr V w' (fun _ => False)) := fun V hf => by
                  have := (HSy.out.step hf).ask (fun m hb => holds_any hb ((k : Int) + 1) (j : Int) HFJ.out)
                  rwa [show holdsB b ((k : Int) + 1) (j : Int) = hasB (b.sets (k + 1)) (j : Int) from holds_in HOw.out _] at this
                generalize hasB (b.sets (k + 1)) (j : Int) = hh at *
                obtain ⟨l1, l2⟩ := HLK.out y1 (Fr.refl _ _)
                have HF0 := hid (Fr.refl y1 (fun _ => False))
                clear HSy
                go_cut [51] from 42 to 51 (fun s wx => s = .bool false ∧ Hid (Fr y1 wx (fun _ => False)))
                case first =>
                  go_region_held3 (fun V => Hid (Fr y1 V (fun _ => False)) ∧ (Instr.lookup 48 (.map (some M)) (.int .i64 ((k : Int) + 1)) false).run Try.prog V = .ok (.map (some (sM (k + 1)))) V ∧ (Instr.lookup 49 (.map (some (sM (k + 1)))) (.int .i64 (j : Int)) false).run Try.prog V = .ok (.bool hh) V)
                    ((refine (fun h => ⟨h, HLK.out _ h⟩ : Fr y1 _ (fun _ => False) → _) ?_; repeat (first | with_reducible exact HF0.out | with_reducible exact Fr.refl _ _ | with_reducible apply Fr.drew | with_reducible apply Fr.alloc)))
                    ((go_at_call 15; refine (HHo.out _ (by repeat (first | with_reducible exact HF0.out | with_reducible exact Fr.refl _ _ | with_reducible apply Fr.drew | with_reducible apply Fr.alloc))).mono ?_; rintro x1 w1 ⟨rfl, hf⟩; have HF0 := hid (Fr.trans (a := y1) (by repeat (first | with_reducible exact HF0.out | with_reducible exact Fr.refl _ _ | with_reducible apply Fr.drew | with_reducible apply Fr.alloc)) hf); clear hf))
                  all_goals (go_wp2_with fail)
                  all_goals go_meet
                  all_goals exact ⟨by cases hh <;> rfl, HF0.out⟩
                case rest =>
                  obtain ⟨rfl, HX⟩ := hcut
                  have HL := hid (HL.out.step HX.out)
                  go_wp2_with fail
                  go_roundg g2
                  case rel => exact ⟨j + 1, by simp, by have := HGJ.out; omega, HL⟩
                  case measure => omega
        · intro x
          refine ⟨?_, ?_⟩
          all_goals
            intro kl0 yd yp w2 cnt2 hkey hlk hv hat2 hrg2 hlt2 hg2 hs2 hen
            obtain ⟨x', ex, rfl, hwx⟩ := Maps.keyOf_int_inv Try.underlying3 hkey
            cases ex
            have HN : Hid (∀ wz, Mb wz A (ins x L2) → w2.grownBy wz (some A) → Rh W wz A (sM (k + 1)) r b k D (b.sets (k + 1)).length cnt2 (fun z => left z && !z.sameKey (.int .i64 x)) (x :: G) (ins x L2)) := fun wz hm hg => HR.out.next HW.out HRB.out.1 HRB.out.2 (HNA.out _ HOw.out) hlk hrg2 hg2 hm hg
            have HMb := hid (HR.out.hl.mb.fr (grown_fr hg2) HRB.out.2)
            have HLl : Hid (L2.length < maxLen) := by have := HR.out.hl.len HW.out; have := HB.out; show L2.length < maxLen; unfold maxLen; omega
            have HRi := hid HR.out.hl.al.1
            have HFi : Hid (fits x) := by have := HW.out.lo (k + 1) x (HR.out.inl x hlk); have := HB.out; show fits _; unfold fits; omega
            have HLT2 := hid hlt2
            clear hkey hlk hv hat2 hrg2 hlt2 hg2 hs2 HR hrg
            go_wp2_with (at_mapUpdate; go_must (refine wpl_mb rfl _ _ _ rfl A L2 x rfl rfl rfl HMb.out HRi.out HLl.out HFi.out ?_))
            intro w3 hm3 hg3
            have HN3 := hid (HN.out w3 hm3 hg3)
            clear hm3 hg3 HN HMb
            go_wp2_with fail
            go_roundg cnt2
            case measure => exact HLT2.out
            case rel => exact ⟨_, _, _, HN3.out⟩
end Go.Proofs.Ytimefcmemklhpaa.E
