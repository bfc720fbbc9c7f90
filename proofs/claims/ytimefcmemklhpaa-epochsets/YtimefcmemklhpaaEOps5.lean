/- Held, Dying, Live, Drop, Begin, End: walks. -/
import Derived.Test.YtimefcmemklhpaaEOps4
import Derived.Deep.DeepCutAuto
namespace Go.Proofs.Ytimefcmemklhpaa.E
open Go.RowKit Go.Maps Go.MuLone

theorem Lst.fr {w w' : World} {v : Value} {l : List Int} (h : Lst w w' v l) : Fr w w' (fun _ => False) := by obtain ⟨ss, _, _, hf⟩ := h; exact hf
theorem Lst.step {w w' w'' : World} {v : Value} {l : List Int} (h : Lst w w' v l) (hf : Fr w' w'' (fun _ => False)) : Lst w w'' v l := by
  obtain ⟨ss, hp, ho, hf0⟩ := h
  exact ⟨ss, hp, ho.fr hf (fun _ _ h => h), hf0.trans hf⟩
theorem Lst.from {a w w' : World} {v : Value} {l : List Int} (h : Lst w w' v l) (hf : Fr a w (fun _ => False)) : Lst a w' v l := by
  obtain ⟨ss, hp, ho, hf0⟩ := h
  exact ⟨ss, hp, ho.mono hf.size, hf.trans hf0⟩

theorem Lst.step2 {a w x w' : World} {v u : Value} {l l' : List Int} (h : Lst a w v l) (hu : Lst x w' u l') (hf : Fr w x (fun _ => False)) : Lst a w' v l := h.step (hf.trans hu.fr)
theorem Lst.own {a w : World} {v : Value} {l : List Int} (h : Lst a w v l) : ∃ ss, ss.Perm l ∧ OwI w a.heap.size v ss := by obtain ⟨ss, h1, h2, _⟩ := h; exact ⟨ss, h1, h2⟩
theorem wp_lst {w2 w : World} {o : Oper} {a : Act} {K : Act → World → Prop} {Q : Exit → Act → World → Prop} (s x : Operand)
    (ho : o.op = .call { callee := .builtin .append, args := #[s, x], argTypes := #[38, 38] })
    (v u : Value) (l l' : List Int) (hs : a.eval s = v) (hx : a.eval x = u) (h : Lst w2 w v l) (hu : Lst w2 w u l') (hl : l.length + l'.length ≤ 4398046511104)
    (hK : ∀ v' w', Lst w2 w' v' (l ++ l') → K (a.put o.dst v') w') :
    o.wp Try.prog a w K Q := by
  obtain ⟨ss, p1, o1, f1⟩ := h
  obtain ⟨tt, p2, o2, _⟩ := hu
  refine wp_app s x ho w2.heap.size v u ss tt hs hx o1 o2.rd (by rw [p1.length_eq, p2.length_eq]; exact hl) f1.size ?_
  intro v' w' h1 h2 _
  refine hK v' w' ⟨ss ++ tt, p1.append p2, h1, f1.grown h2 (fun k hk e => ?_)⟩
  have := (World.ownsRow.lt o1 k e).1
  omega
set_option maxHeartbeats 2000000 in
set_option maxRecDepth 100000 in
theorem heldM_any {w : World} {B : Nat} {m : Nat → Option Nat} {b : Bo} (h : Bk w 0 B m b) :
    Calls Try.prog 17 #[.pointer (some ⟨B, 0, none⟩)] w fun e w' => ∃ v, e = .returned v ∧ OwI w' w.heap.size v (heldL b) ∧ Fr w w' (fun _ => False) := by
  have H := hid h
  clear h
  go_enter_defers Try.func17, Try.ntmps17
  go_wp2_with fail
  refine (lock_any H.out).mono ?_
  rintro e w2 ⟨rfl, hb1, hf1⟩
  have HB := hid hb1
  have HF := hid hf1
  have hlt := hb1.lt
  clear hb1 hf1
  go_wp2_with fail
  refine (heldB_any HB.out).mono ?_
  rintro e w3 ⟨v, rfl, ho, hf⟩
  have HO := hid (ho.mono (base' := w.heap.size) HF.out.size)
  have HB2 := hid (HB.out.step hf)
  have HF2 := hid (HF.out.trans (hf.mono (fun _ _ h => h.elim)))
  clear ho hf
  go_wp2_with fail
  refine leaves_cons (f := 33) (args := #[.pointer (some ⟨B, 0, none⟩)]) (by simp) (by simp [go_sem]) ?_
  refine (unlock_any HB2.out .returning).mono ?_
  rintro eZ uZ wZ ⟨rfl, rfl, hbZ, hfZ⟩
  refine ⟨_, results_tmp rfl _ _ _, ?_⟩
  refine ⟨v, rfl, ?_, H.out.same hbZ (HF2.out.trans hfZ)⟩
  refine HO.out.fr hfZ (fun k hk e => ?_)
  have h1 := (World.ownsRow.lt HO.out k hk).1
  have h2 := H.out.lt
  omega

set_option maxHeartbeats 4000000 in
set_option maxRecDepth 100000 in
theorem dyingM_any {w : World} {B : Nat} {m : Nat → Option Nat} {b : Bo} (h : Bk w 0 B m b) :
    Calls Try.prog 18 #[.pointer (some ⟨B, 0, none⟩)] w fun e w' => ∃ v, e = .returned v ∧ OwI w' w.heap.size v (dyingL b) ∧ Fr w w' (fun _ => False) := by
  have H := hid h
  clear h
  go_enter_defers Try.func18, Try.ntmps18
  go_wp2_with fail
  refine (lock_any H.out).mono ?_
  rintro e w2 ⟨rfl, hb1, hf1⟩
  have HB := hid hb1
  have HF := hid hf1
  have hlt := hb1.lt
  have HC : Hid (∀ W', Fr w2 W' (fun _ => False) → W'.cell? ⟨B, 134, none⟩ = some (.map (m 65)) ∧ W'.cell? ⟨B, 135, none⟩ = some (.map (m 66))) := fun W' hf => ⟨(hb1.step hf).get (by omega), (hb1.step hf).get (by omega)⟩
  have HL : Hid (∀ (i : Nat) (W : World), i ≤ 66 → Fr w2 W (fun _ => False) → Calls Try.prog 54 #[.map (m i)] W fun e w' => ∃ v, e = .returned v ∧ Lst W w' v (b.sets i)) := fun i W hi hf => by
    refine (list_any ((hb1.step hf).map i hi) (hb1.wf.ri i) (hb1.wf.len i)).mono ?_
    rintro e w' ⟨v, ss, h1, h2, h3, h4⟩
    exact ⟨v, h1, ss, h2, h3, h4⟩
  have HN := hid (show (b.sets 65).length + (b.sets 66).length ≤ 4398046511104 by have := hb1.wf.len 65; have := hb1.wf.len 66; omega)
  clear hb1 hf1
  obtain ⟨c4, c5⟩ := HC.out w2 (Fr.refl _ _)
  go_wp2_with fail
  have HF0 := hid (Fr.refl w2 (fun _ => False))
  have tok1 : Hid (0 = 0) := rfl
  go_cut [3] from 11 to 23 (fun s wx => Hid (Lst w2 wx s (b.sets 65 ++ b.sets 66)))
  case first =>
    go_region_held3 (fun W' => Hid (Fr w2 W' (fun _ => False)) ∧ W'.cell? ⟨B, 134, none⟩ = some (.map (m 65)) ∧ W'.cell? ⟨B, 135, none⟩ = some (.map (m 66)))
      ((refine (fun h => ⟨h, HC.out _ h⟩ : Fr w2 _ (fun _ => False) → _) ?_; repeat (first | with_reducible exact HF0.out | with_reducible exact Fr.refl _ _ | with_reducible apply Fr.drew | with_reducible apply Fr.alloc)))
      ((first
        | (go_at_call 54; have _t := tok1; refine (HL.out 65 _ (by omega) (by repeat (first | with_reducible exact HF0.out | with_reducible exact Fr.refl _ _ | with_reducible apply Fr.drew | with_reducible apply Fr.alloc))).mono ?_; rintro e w3 ⟨v1, rfl, hL1⟩; have HL1 := hid (hL1.from (a := w2) (by repeat (first | with_reducible exact HF0.out | with_reducible exact Fr.refl _ _ | with_reducible apply Fr.drew | with_reducible apply Fr.alloc))); have HF0 := hid HL1.out.fr; clear hL1 tok1 _t)
        | (go_at_call 54; refine (HL.out 66 _ (by omega) (by repeat (first | with_reducible exact HF0.out | with_reducible exact Fr.refl _ _ | with_reducible apply Fr.drew | with_reducible apply Fr.alloc))).mono ?_; rintro e w4 ⟨v2, rfl, hL2⟩; have HL1 := hid (HL1.out.step2 hL2 (by repeat (first | with_reducible exact Fr.refl _ _ | with_reducible apply Fr.drew | with_reducible apply Fr.alloc))); have HL2 := hid (hL2.from (a := w2) (by repeat (first | with_reducible exact HF0.out | with_reducible exact Fr.refl _ _ | with_reducible apply Fr.drew | with_reducible apply Fr.alloc))); have HF0 := hid HL1.out.fr; clear hL2)
        | (refine wp_lst (.tmp 16) (.tmp 22) rfl v1 v2 (b.sets 65) (b.sets 66) rfl rfl (HL1.out.step (by repeat (first | with_reducible exact Fr.refl _ _ | with_reducible apply Fr.drew))) (HL2.out.step (by repeat (first | with_reducible exact Fr.refl _ _ | with_reducible apply Fr.drew))) HN.out ?_; intro v3 w5 hL3; have HL3 := hid hL3; have HF0 := hid hL3.fr; clear hL3)))
    all_goals (go_wp2_with fail)
    all_goals go_meet
    all_goals exact HL3.out
  case rest =>
    have HX := hcut
    obtain ⟨ss, hp, ho⟩ := HX.out.own
    have HP := hid hp
    have HO := hid (ho.mono (base' := w.heap.size) HF.out.size)
    have HFX := hid (HF.out.trans (HX.out.fr.mono (fun _ _ h => h.elim)))
    have HBX := hid (HB.out.step HX.out.fr)
    have hlen : ss.length ≤ 4398046511104 := by have h1 := HP.out.length_eq; have h2 := HN.out; simp at h1; omega
    clear hp ho hcut
    go_wp2_with fail
    refine (sort_own HO.out (by omega)).mono ?_
    rintro e w5 ⟨rfl, ho5, hf5⟩
    have HO5 := hid ho5
    have HB5 := hid (HBX.out.fr hf5 (fun k hk e => by
      have h1 := (World.ownsRow.lt HO.out k e).1
      rcases hk with rfl | ⟨i, hi, hk⟩
      · have := H.out.lt; omega
      · have := (H.out.ms hi hk).lt; omega))
    have HF5 := hid (HFX.out.trans2 hf5 (fun k hk e => by have := (World.ownsRow.lt HO.out k e).1; omega))
    clear ho5 hf5
    go_wp2_with fail
    refine leaves_cons (f := 33) (args := #[.pointer (some ⟨B, 0, none⟩)]) (by simp) (by simp [go_sem]) ?_
    refine (unlock_any HB5.out .returning).mono ?_
    rintro eZ uZ wZ ⟨rfl, rfl, hbZ, hfZ⟩
    refine ⟨_, results_tmp rfl _ _ _, ?_⟩
    refine ⟨_, rfl, ?_, H.out.same hbZ (HF5.out.trans hfZ)⟩
    have e1 : dyingL b = srt ss := srt_of_perm HP.out.symm
    rw [e1]
    refine HO5.out.fr hfZ (fun k hk e => ?_)
    have h1 := (World.ownsRow.lt HO5.out k hk).1
    have h2 := H.out.lt
    omega
end Go.Proofs.Ytimefcmemklhpaa.E
