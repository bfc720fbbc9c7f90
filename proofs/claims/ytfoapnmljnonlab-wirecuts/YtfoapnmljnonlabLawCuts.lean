/- WireCuts returns true, and its arguments read afterwards as before: for all bodies and cuts that can be read and every bool; no further conditions. -/
import Derived.Test.YtfoapnmljnonlabHead
import Derived.Test.YtfoapnmljnonlabLists
import Derived.Test.YtfoapnmljnonlabArgs2
import Derived.ProofKit
import Derived.OpenShut
import Derived.SizedLaws
import Derived.Below
import Derived.WalkSmall
import Derived.Deep.DeepCutAuto
import Derived.Deep.Slices
namespace Go.Proofs.Ytfoapnmljnonlab
open Go.ChangeShapes Go.WideShapes Go.ChangeAt Go.RowKit

theorem cutsOwn : ownKnob Try.prog.godebug = none := by kernel_rfl
theorem cutsLaid : laidOutB Try.prog = true := by kernel_rfl

theorem conv8 {W : World} {v : Value} {xs : List Nat} (h : Bs W v xs) : (convert 24 9 v).run Try.prog W = .ok (.string (str8 xs)) W :=
  run_str8 Try.underlying24 Try.underlying5 Try.underlying9 h

/-- A good body comes behind the others. -/
theorem CW.snoc {w : World} {al gd al2 gd2 : Value} {gs : List (List Nat)} {Vs : List Value} {A : List Nat} {wx w3 w5 : World} {x : List Nat} {vx : Value}
    (h : CW w al gd gs Vs A wx) (hx : (1 ≤ x.length ∧ x.length ≤ 65536) ∧ ∀ j, x.getD j 0 < 256) (hv : Bs w vx x)
    (ho3 : w3.ownsRow w.heap.size 5 1 al2 (A.length + (frameB x).length) (by8 A ++ by8 (frameB x))) (hg3 : Fr wx w3 (fun k => al.ownBlock = some k)) (hat : al2.ownBlock = al.ownBlock ∨ ∃ g, al2.ownBlock = some g ∧ wx.heap.size ≤ g)
    (ho5 : w5.ownsRow w.heap.size 24 1 gd2 (gs.length + 1) (Vs ++ [vx])) (hg5 : Fr w3 w5 (fun k => gd.ownBlock = some k)) :
    CW w al2 gd2 (gs ++ [x]) (Vs ++ [vx]) (A ++ frameB x) w5 := by
  have hbl : Below w.heap.size w w5 := (h.below.trans (hg3.below h.below.size (fun k hk => (h.aown.lt k hk).1))).trans (hg5.below (by have := h.below.size; have := hg3.size; omega) (fun k hk => (h.gown.lt k hk).1))
  refine ⟨?_, ?_, by simp [h.vlen], ?_, ?_, hbl⟩
  · have : w3.ownsRow w.heap.size 5 1 al2 (A ++ frameB x).length (by8 (A ++ frameB x)) := by
      rw [List.length_append, by8_append]
      exact ho3
    refine own_fr this hg5 (fun k hk hk2 => ?_)
    rcases hat with e | ⟨g, e, hg⟩
    · rw [e] at hk
      exact own_apart h.aown h.gown (by decide) hk hk2
    · rw [e] at hk
      simp at hk
      subst hk
      have := (h.gown.lt g hk2).2
      omega
  · rw [List.length_append]
    exact ho5
  · intro i hi
    rw [List.length_append, List.length_singleton] at hi
    have hfr : Fr w w5 (fun _ => False) := Fr.ofBelow hbl
    rcases Nat.lt_or_ge i gs.length with hi2 | hi2
    · have hb := h.bss i hi2
      rw [show (Vs ++ [vx]).getD i (.slice none 0 0) = Vs.getD i (.slice none 0 0) from by simp [List.getD, List.getElem?_append_left (show i < Vs.length by rw [h.vlen]; exact hi2)],
        show (gs ++ [x]).getD i [] = gs.getD i [] from by simp [List.getD, List.getElem?_append_left hi2]]
      refine ⟨?_, hb.2⟩
      refine hb.1.keep (fun a j u ha hu => ?_)
      have hlt := hb.2 a ha
      rw [hbl.block a hlt, h.below.block a hlt]
    · obtain rfl : i = gs.length := by omega
      rw [show (Vs ++ [vx]).getD gs.length (.slice none 0 0) = vx from by rw [← h.vlen]; simp [List.getD], show (gs ++ [x]).getD gs.length [] = x from by simp [List.getD]]
      have hne : x ≠ [] := by intro e; subst e; simp at hx
      exact ⟨hv.fr hfr (fun _ _ h => h), fun k hk => hv.lt hk hne⟩
  · intro g hg
    rw [List.mem_append, List.mem_singleton] at hg
    rcases hg with hg | rfl
    · exact h.good g hg
    · exact hx

def tailB (bad : Bool) : List Nat := if bad then [0, 1, 0, 1, 7] else []
theorem CW.more {w : World} {al gd al2 : Value} {gs : List (List Nat)} {Vs : List Value} {A B : List Nat} {wx w3 : World} {m : Nat}
    (h : CW w al gd gs Vs A wx) (hm : B.length = m) (ho3 : w3.ownsRow w.heap.size 5 1 al2 (A.length + m) (by8 A ++ by8 B)) (hg3 : Fr wx w3 (fun k => al.ownBlock = some k)) : CW w al2 gd gs Vs (A ++ B) w3 := by
  have hbl : Below w.heap.size w w3 := h.below.trans (hg3.below h.below.size (fun k hk => (h.aown.lt k hk).1))
  refine ⟨by rw [List.length_append, by8_append, hm]; exact ho3, own_fr h.gown hg3 (fun k hk hk2 => own_apart h.aown h.gown (by decide) hk2 hk), h.vlen, ?_, h.good, hbl⟩
  intro i hi
  refine ⟨(h.bss i hi).1.keep (fun a j u ha hu => ?_), (h.bss i hi).2⟩
  have hlt := (h.bss i hi).2 a ha
  rw [hbl.block a hlt, h.below.block a hlt]

/-- What is known between two calls of the second loop. -/
structure C2 (w : World) (N : Nat) (bad : Bool) (al gd : Value) (gs : List (List Nat)) (Vs : List Value) (A : List Nat) (t at' : Nat) (fed : List Nat) (told : Nat) (v : Value) (wx : World) : Prop where
  cw : CW w al gd gs Vs A wx
  fz : Fz wx N N v 65536 fed told 0
  st : fed.drop told ++ A.drop at' = cat (gs.drop t) ++ tailB bad
  tle : t ≤ gs.length
  ale : at' ≤ A.length
  sm : fed.length + (A.length - at') ≤ 300000
  aN : ∀ k, al.ownBlock = some k → k < N
  gN : ∀ k, gd.ownBlock = some k → k < N
  wN : w.heap.size ≤ N
  size : N < wx.heap.size
  a8 : ∀ j, A.getD j 0 < 256

theorem C2.sets {w : World} {N : Nat} {bad : Bool} {al gd : Value} {gs : List (List Nat)} {Vs : List Value} {A : List Nat} {t at' : Nat} {fed : List Nat} {told : Nat} {v : Value} {wx : World} (h : C2 w N bad al gd gs Vs A t at' fed told v wx) (k : Nat) (hk : k = N ∨ v.ownBlock = some k) : N ≤ k := by
  rcases hk with hk | hk
  · omega
  · exact (h.fz.own.lt k hk).1
theorem C2.cwfr {w : World} {N : Nat} {bad : Bool} {al gd : Value} {gs : List (List Nat)} {Vs : List Value} {A : List Nat} {t at' : Nat} {fed : List Nat} {told : Nat} {v : Value} {wx w' : World} (h : C2 w N bad al gd gs Vs A t at' fed told v wx) (hf : Fr wx w' (fun k => k = N ∨ v.ownBlock = some k)) : CW w al gd gs Vs A w' :=
  h.cw.fr hf (fun k hk => by have := h.sets k hk; have := h.wN; omega) (fun k hk hs => by have := h.sets k hs; have := h.aN k hk; omega) (fun k hk hs => by have := h.sets k hs; have := h.gN k hk; omega)
theorem C2.drewN {w : World} {N : Nat} {bad : Bool} {al gd : Value} {gs : List (List Nat)} {Vs : List Value} {A : List Nat} {t at' : Nat} {fed : List Nat} {told : Nat} {v : Value} {wx : World} (h : C2 w N bad al gd gs Vs A t at' fed told v wx) (n : Nat) : C2 w N bad al gd gs Vs A t at' fed told v (wx.drewN n) :=
  ⟨h.cw.drewN n, h.fz.drewN n, h.st, h.tle, h.ale, h.sm, h.aN, h.gN, h.wN, h.size, h.a8⟩
theorem C2.fed {w : World} {N : Nat} {bad : Bool} {al gd : Value} {gs : List (List Nat)} {Vs : List Value} {A : List Nat} {t at' : Nat} {fed : List Nat} {told : Nat} {v v' : Value} {wx w5 : World} (h : C2 w N bad al gd gs Vs A t at' fed told v wx) (K : Nat) (hK : K ≤ A.length - at') (hz : Fz w5 N N v' 65536 (fed ++ (A.drop at').take K) told 0) (hf : Fr wx w5 (fun k => k = N ∨ v.ownBlock = some k)) :
    C2 w N bad al gd gs Vs A t (at' + K) (fed ++ (A.drop at').take K) told v' w5 := by
  have hs := hf.size
  have hale := h.ale
  refine ⟨h.cwfr hf, hz, ?_, h.tle, by omega, ?_, h.aN, h.gN, h.wN, by have := h.size; omega, h.a8⟩
  · rw [List.drop_append_of_le_length h.fz.le, List.append_assoc, ← List.drop_drop, List.take_append_drop]
    exact h.st
  · have := h.sm
    simp
    omega
theorem C2.told {w : World} {N : Nat} {bad : Bool} {al gd : Value} {gs : List (List Nat)} {Vs : List Value} {A : List Nat} {t at' : Nat} {fed fed' : List Nat} {told told' : Nat} {v v' : Value} {wx w6 : World} (h : C2 w N bad al gd gs Vs A t at' fed told v wx) (ht : t < gs.length) (hz : Fz w6 N N v' 65536 fed' told' 0) (hf : Fr wx w6 (fun k => k = N ∨ v.ownBlock = some k)) (hs : fed'.drop told' ++ A.drop at' = cat (gs.drop (t + 1)) ++ tailB bad) (hl : fed'.length ≤ fed.length) :
    C2 w N bad al gd gs Vs A (t + 1) at' fed' told' v' w6 := by
  have hsz := hf.size
  exact ⟨h.cwfr hf, hz, hs, by omega, h.ale, by have := h.sm; omega, h.aN, h.gN, h.wN, by have := h.size; omega, h.a8⟩
theorem cat_nil {gs : List (List Nat)} (h : cat gs = []) : gs = [] := by
  cases gs with
  | nil => rfl
  | cons b r =>
    have := congrArg List.length h
    rw [cat, List.length_append, frameB_length] at this
    simp at this
theorem bad_head {P R : List Nat} (h : P ++ R = [0, 1, 0, 1, 7]) (h4 : 4 ≤ P.length) : 65536 < headN P := by
  rw [headN, take_pre h 4 h4]
  decide
theorem bs_mid {w : World} {base g cap : Nat} {e : TypeId} {xs : List Nat} (h : w.ownsRow base e 1 (.slice (some ⟨g, 0, none⟩) xs.length cap) xs.length (by8 xs)) (q K c : Nat) (hq : q + K ≤ xs.length) : Bs w (.slice (some ⟨g, q, none⟩) K c) ((xs.drop q).take K) := by
  have hlen : ((xs.drop q).take K).length = K := by simp; omega
  refine Or.inr ⟨⟨g, q, none⟩, c, by rw [hlen], fun j u hu => ?_⟩
  have hj : j < K := by
    rcases Nat.lt_or_ge j K with h | h
    · exact h
    · rw [List.getElem?_eq_none (by rw [by8_length, hlen]; exact h)] at hu
      cases hu
  have := h.cells (g := g) rfl (q + j) _ (by8_get xs (q + j) (by omega))
  rw [Addr.add_lit, Nat.zero_add] at this
  rw [Addr.add_lit, this, ← hu, by8_get _ j (by omega)]
  simp [List.getD, hj]
theorem drop_cat {gs : List (List Nat)} {t : Nat} (ht : t < gs.length) : cat (gs.drop t) = frameB (gs.getD t []) ++ cat (gs.drop (t + 1)) := by
  rw [List.drop_eq_getElem_cons ht, cat]
  simp [List.getD, List.getElem?_eq_getElem ht]

set_option maxHeartbeats 800000 in
set_option maxRecDepth 100000 in
/-- Frame, of a body of whatever length. -/
theorem frame_all (sv : Value) (xs : List Nat) (w : World) (hs : Bs w sv xs) :
    Calls Try.prog 24 #[sv] w fun e w' => FramePost w xs e w' := by
  by_cases hl : xs.length ≤ 140737488355328
  · exact frame_any sv xs w hs hl
  · obtain ⟨ao, cap, rfl⟩ := slice_shape hs
    have HX : Hid (¬ (1 ≤ xs.length ∧ xs.length ≤ 65536)) := by
      intro h
      omega
    have t1 : ¬ (xs.length : Int) < 1 := by omega
    have t2 : (65536 : Int) < (xs.length : Int) := by omega
    clear hl hs
    generalize hn : xs.length = n at *
    have HN := hid hn
    clear hn
    go_enter Try.func24, Try.ntmps24
    go_wp2
    go_ret2
    exact ⟨_, Fr.refl _ _, Or.inr ⟨by rw [HN.out]; exact HX.out, rfl, rfl⟩⟩

set_option maxHeartbeats 4000000 in
set_option maxRecDepth 100000 in
theorem cuts_walk (bv cv : Value) (bs : List (List Nat)) (cs : List Int) (bad : Bool) (w : World) (hbs : Bss w bv bs) (hcs : Css w cv cs) (hbl : bs.length ≤ 140737488355328) (hb8 : ∀ g ∈ bs, ∀ j, g.getD j 0 < 256) :
    Calls Try.prog 5 #[bv, cv, .bool bad] w fun e w' => e = .returned (.bool true) ∧ Below w.heap.size w w' := by
  obtain ⟨i0, hi, hz0, hz1, hz2⟩ := info_parts Try.info5
  obtain ⟨i4, hi4, hz40, hz41, hz42⟩ := info_parts Try.info24
  obtain ⟨bao, bcap, rfl, hbcell⟩ := hbs
  obtain ⟨cao, ccap, rfl, hcl0, hccell⟩ := hcs
  have HCC := hid hccell
  clear hccell
  have HBC := hid hbcell
  have HB8 := hid hb8
  clear hbcell hb8
  go_enter Try.func5, Try.ntmps5
  go_wp2_with fail
  go_loopw [7, 8, 9] (fun al gd i wx => ∃ (k : Nat) (gs : List (List Nat)) (Vs : List Value), k ≤ bs.length ∧ k ≤ 30 ∧ i = .int .i64 (k : Int) ∧ Hid (CW w al gd gs Vs (cat gs) wx) ∧ gs.length ≤ k ∧ (cat gs).length ≤ 131072 + 65540) (fun _ _ i _ => 30 - (intOf i).toNat)
  case atStart => exact ⟨0, [], [], Nat.zero_le _, by omega, rfl, ⟨World.ownsRow_nil _ _ _ _, World.ownsRow_nil _ _ _ _, rfl, fun i hi => by simp at hi, fun g hg => by simp at hg, Below.refl _ _⟩, by simp, by simp [cat]⟩
  case round =>
    obtain ⟨k, gs, Vs, hk, hk30, rfl, HC, hgk, hcl⟩ := hrel
    obtain ⟨aoa, capa, rfl⟩ := own_nil_shape HC.out.aown
    obtain ⟨aog, capg, rfl⟩ := own_nil_shape HC.out.gown
    by_cases hgo : k < bs.length ∧ k < 30 ∧ (cat gs).length < 131072
    · obtain ⟨g1, g2, g3⟩ := hgo
      obtain ⟨b, off, V, rfl, hcells⟩ := HBC.out (by intro e; subst e; simp at g1)
      have hck := hcells k g1
      have hwsz := HC.out.below.size
      have hck2 : wr.cell? ⟨b, off + k, none⟩ = some (V k) := by
        rw [HC.out.below.cell (p := ⟨b, off + k, none⟩) (World.block_lt_of_cell? w _ hck.1)]
        exact hck.1
      have HBL : Hid (b < w.heap.size) := World.block_lt_of_cell? w _ hck.1
      have HV := hid hck.2
      have HVr := hid (hck.2.fr (Fr.ofBelow (S := fun _ => False) HC.out.below) (fun _ _ h => h))
      obtain ⟨x, hx⟩ : ∃ x, x = bs.getD k [] := ⟨_, rfl⟩
      have hxm : x ∈ bs := by rw [hx]; simp only [List.getD, List.getElem?_eq_getElem g1, Option.getD_some]; exact List.getElem_mem g1
      have HX8 := hid (HB8.out x hxm)
      rw [← hx] at HV HVr
      obtain ⟨aox, capx, hvk⟩ := slice_shape HV.out
      rw [hvk] at HV HVr hck2
      have t1 : (k : Int) < (bs.length : Int) := by omega
      have t2 : (k : Int) < 30 := by omega
      have t3 : ((cat gs).length : Int) < 131072 := by omega
      clear hcells hck hvk hx hxm g1 g2 g3
      go_wp2_with fail
      refine (frame_all _ x _ HVr.out).mono ?_
      rintro e w2 ⟨v2, hf2, hp2⟩
      have HF2 := hid hf2
      have hck3 : w2.cell? ⟨b, off + k, none⟩ = some (.slice aox x.length capx) := by
        rw [World.cell?_of_block (w := wr) (a := ⟨b, off + k, none⟩) (hf2.block b (World.block_lt_of_cell? wr _ hck2) (fun h => h))]
        exact hck2
      have hsz2 := hf2.size
      clear hf2
      rcases hp2 with ⟨x1, x2, rfl, ho2⟩ | ⟨hx, rfl, rfl⟩
      · have t4 : (1 : Int) ≤ (x.length : Int) := by omega
        have t5 : (x.length : Int) ≤ 65536 := by omega
        obtain ⟨ao2, cap2, rfl⟩ := own_nil_shape ho2
        have hfl := frameB_length x
        obtain ⟨a2, rfl, hc2⟩ := (own_bs ho2).addr (by omega)
        have HC2 := hid hc2
        have hfl2 : (frameB x).length ≤ 65540 := by omega
        have ho1 := own_fr HC.out.aown HF2.out (fun _ _ h => h)
        clear ho2 hc2 hfl
        go_upto_region 10 with fail
        go_wp2_with (at_builtin; go_must (refine wpList_append_own_at _ rfl (.tmp 63) (.tmp 64) 24 rfl w.heap.size 5 i0 (.int .u8 0) 1 1 Try.underlying24 hi hz0 hz1 hz2 rfl (by decide) _ _ _ rfl ho1 a2 (frameB x).length cap2 (by8 (frameB x)) rfl (by rw [by8_length, Nat.mul_one]) HC2.out (by8_one _) (by unfold maxLen; omega) (by omega) (by omega) ?_))
        intro v3 w3 hown3 hgrow3 _ hat3
        have HF3 := hid ((HF2.out.mono (T := fun k => (Value.slice aoa (cat gs).length capa).ownBlock = some k) (fun _ _ h => h.elim)).grown hgrow3 (fun k _ e => e))
        have HO3 := hid hown3
        have HA3 : Hid (v3.ownBlock = (Value.slice aoa (cat gs).length capa).ownBlock ∨ ∃ g, v3.ownBlock = some g ∧ wr.heap.size ≤ g) := by
          rcases hat3 with h | h
          · exact Or.inl h
          · exact Or.inr ⟨_, h, hsz2⟩
        obtain ⟨ao3, cap3, rfl⟩ := own_nil_shape hown3
        have hck4 : w3.cell? ⟨b, off + k, none⟩ = some (.slice aox x.length capx) := by
          rw [World.cell?_of_block (w := wr) (a := ⟨b, off + k, none⟩) (HF3.out.block b (World.block_lt_of_cell? wr _ hck2) (fun h => by have := (HC.out.aown.lt b h).1; have := HBL.out; omega))]
          exact hck2
        have hg3 := own_fr HC.out.gown HF3.out (fun k hk hk2 => own_apart HC.out.aown HC.out.gown (by decide) hk2 hk)
        have hsz3 := HF3.out.size
        have hvl := HC.out.vlen
        clear hown3 hgrow3 hat3 ho1 HC2 hck3
        go_upto_region 11 with fail
        go_wp2_with (at_builtin; go_must (refine wpList_append_own_at _ rfl (.tmp 66) (.tmp 71) 49 rfl w.heap.size 24 i4 (.slice none 0 0) 1 24 Try.underlying49 hi4 hz40 hz41 hz42 rfl (by decide) _ _ _ rfl (hg3.alloc _) ⟨w3.heap.size, 0, none⟩ 1 1 [.slice aox x.length capx] rfl rfl (cells_new _ _ _) (fun u hu => by simp at hu; subst hu; rfl) (by unfold maxLen; omega) (by omega) (by simp; omega) ?_))
        intro v4 w4 hown4 hgrow4 _ _
        have HN := hid (HC.out.snoc (x := x) ⟨⟨x1, x2⟩, HX8.out⟩ HV.out HO3.out HF3.out HA3.out hown4 ((alloc_fr w3 _ (fun k => (Value.slice aog gs.length capg).ownBlock = some k)).grown hgrow4 (fun k _ e => e)))
        rw [← cat_snoc] at HN
        obtain ⟨ao4, cap4, rfl⟩ := own_nil_shape hown4
        have hcl2 : (cat (gs ++ [x])).length ≤ 131072 + 65540 := by rw [cat_snoc, List.length_append]; omega
        have hgl2 : (gs ++ [x]).length ≤ k + 1 := by simp; omega
        have HGL := hid hgl2
        have HCL := hid hcl2
        clear hown4 hgrow4 hg3 hvl HO3 HF3 HA3 hck4 hgl2 hcl2
        go_wp2
        exact ⟨⟨k + 1, gs ++ [x], Vs ++ [.slice aox x.length capx], by omega, by omega, by go_num, HN, HGL.out, HCL.out⟩, by simp [intOf]; omega⟩
      · have HN := hid (HC.out.fr HF2.out (fun _ h => h.elim) (fun _ _ h => h) (fun _ _ h => h))
        rcases (show (x.length : Int) < 1 ∨ ((1 : Int) ≤ (x.length : Int) ∧ (65536 : Int) < (x.length : Int)) by omega) with t4 | ⟨t4, t5⟩
        · clear hx HV HVr
          generalize x.length = xl at *
          have q4 : decide ((1 : Int) ≤ (xl : Int)) = false := by simp; omega
          have T4 := hid t4
          clear t4
          go_wp2
          exact ⟨⟨k + 1, gs, Vs, by omega, by omega, by go_num, HN, by omega, by omega⟩, by simp [intOf]; omega⟩
        · clear hx HV HVr
          generalize x.length = xl at *
          have q5 : decide ((xl : Int) ≤ 65536) = false := by simp; omega
          have T5 := hid t5
          clear t5
          go_wp2
          exact ⟨⟨k + 1, gs, Vs, by omega, by omega, by go_num, HN, by omega, by omega⟩, by simp [intOf]; omega⟩
    · go_upto_region 4 with fail
      go_cut [33] (fun s33 wx => wx = wr ∧ s33 = .bool false)
      case first =>
        by_cases g1 : k < bs.length
        · have t1 : (k : Int) < (bs.length : Int) := by omega
          by_cases g2 : k < 30
          · have t2 : (k : Int) < 30 := by omega
            have t3 : ¬ ((cat gs).length : Int) < 131072 := by omega
            go_wp2
            go_meet
            exact ⟨rfl, rfl⟩
          · have t2 : ¬ (k : Int) < 30 := by omega
            go_wp2
            go_meet
            exact ⟨rfl, rfl⟩
        · have t1 : ¬ (k : Int) < (bs.length : Int) := by omega
          go_wp2
          go_meet
          exact ⟨rfl, rfl⟩
      case rest =>
        obtain ⟨rfl, rfl⟩ := hcut
        go_upto_if 73 with fail
        go_cut [7] (fun s7 wx => ∃ aoA capA, s7 = .slice aoA (cat gs ++ tailB bad).length capA ∧ Hid (CW w s7 (.slice aog gs.length capg) gs Vs (cat gs ++ tailB bad) wx))
        case first =>
          cases bad
          · go_wp2
            go_meet
            exact ⟨aoa, capa, by simp [tailB], by simpa [tailB] using HC⟩
          · have ho1 := HC.out.aown
            have hwsz := HC.out.below.size
            go_wp2_with (at_builtin; go_must (refine wpList_append_own_at _ rfl (.tmp 74) (.tmp 75) 24 rfl w.heap.size 5 i0 (.int .u8 0) 1 1 Try.underlying24 hi hz0 hz1 hz2 rfl (by decide) _ _ _ rfl (ho1.alloc _) ⟨_, 0, none⟩ 5 5 (by8 [0, 1, 0, 1, 7]) rfl rfl (cells_newL _ (by8 [0, 1, 0, 1, 7]) 5) (by8_one _) (by unfold maxLen; omega) (by omega) (by simp; omega) ?_))
            intro v3 w3 hown3 hgrow3 _ _
            have HN := hid (HC.out.more (B := [0, 1, 0, 1, 7]) rfl hown3 ((alloc_fr _ _ (fun k => (Value.slice aoa (cat gs).length capa).ownBlock = some k)).grown hgrow3 (fun k _ e => e)))
            obtain ⟨ao3, cap3, rfl⟩ := own_nil_shape hown3
            clear hown3 hgrow3 ho1
            go_wp2
            go_meet
            exact ⟨ao3, cap3, by simp [tailB], by simpa [tailB] using HN⟩
        case rest =>
          obtain ⟨aoA, capA, rfl, HCW⟩ := hcut
          have htb : (tailB bad).length ≤ 5 := by cases bad <;> simp [tailB]
          have hAl : (cat gs ++ tailB bad).length ≤ 200000 := by rw [List.length_append]; omega
          have HA8 : Hid (∀ j, (cat gs ++ tailB bad).getD j 0 < 256) := getD_append_lt (cat_lt gs (fun g hg => (HCW.out.good g hg).2)) (fun j => by
            cases bad
            · simp [tailB]
            · match j with
              | 0 => decide
              | 1 => decide
              | 2 => decide
              | 3 => decide
              | 4 => decide
              | j + 5 => simp [tailB])
          obtain ⟨A, hA⟩ : ∃ A, A = cat gs ++ tailB bad := ⟨_, rfl⟩
          rw [← hA] at HCW hAl HA8 ⊢
          have HA := hid hA
          clear hA HC htb
          go_wp2_with fail
          refine (new_ok 65536 _ (by omega) (by omega)).mono ?_
          rintro e w4 ⟨rfl, hz4, hf4, hl4⟩
          have hszw := HCW.out.below.size
          have HC2 : Hid (C2 w wc.heap.size bad (.slice aoA A.length capA) (.slice aog gs.length capg) gs Vs A 0 0 [] 0 (.slice none 0 0) w4) :=
            ⟨HCW.out.fr hf4 (fun _ h => h.elim) (fun _ _ h => h) (fun _ _ h => h), hz4, by rw [List.drop_zero, List.drop_zero]; simpa using HA.out, Nat.zero_le _, Nat.zero_le _, by simp; omega, fun k hk => (HCW.out.aown.lt k hk).2, fun k hk => (HCW.out.gown.lt k hk).2, hszw, hl4, HA8.out⟩
          have HST : Hid (0 = A.length → 0 = gs.length ∧ bad = false ∧ ([] : List Nat).drop 0 = []) := by
            intro h0
            have hA0 : cat gs ++ tailB bad = [] := by rw [← HA.out]; exact List.eq_nil_of_length_eq_zero h0.symm
            obtain ⟨e1, e2⟩ := List.append_eq_nil_iff.1 hA0
            have := cat_nil e1
            subst this
            cases bad
            · exact ⟨rfl, rfl, rfl⟩
            · simp [tailB] at e2
          clear hz4 hf4 HCW HA
          generalize wc.heap.size = N at *
          go_wp2_with fail
          go_loopw [14, 15, 16] (fun a t i wx => ∃ (q t' i' : Nat) (fed : List Nat) (told : Nat) (v : Value), a = .int .i64 (q : Int) ∧ t = .int .i64 (t' : Int) ∧ i = .int .i64 (i' : Int) ∧ Hid (C2 w N bad (.slice aoA A.length capA) (.slice aog gs.length capg) gs Vs A t' q fed told v wx) ∧ Hid (q = A.length → t' = gs.length ∧ bad = false ∧ fed.drop told = []) ∧ Hid (i' ≤ 300 ∨ (i' ≤ 301 ∧ q = A.length))) (fun a _ i _ => (300 - (intOf i).toNat) + (A.length - (intOf a).toNat))
          case atStart => exact ⟨0, 0, 0, [], 0, _, rfl, rfl, rfl, HC2, HST, Or.inl (by omega)⟩
          case round =>
            obtain ⟨q, t, i, fed, told, v, rfl, rfl, rfl, HC, HD, HI⟩ := hrel
            have hale := HC.out.ale
            by_cases hq : q < A.length
            · have hi3 : i ≤ 300 := by
                rcases HI.out with h | h
                · exact h
                · omega
              have hq' : (q : Int) < (A.length : Int) := by omega
              obtain ⟨g, hg⟩ : ∃ g, aoA = some ⟨g, 0, none⟩ := by
                rcases HC.out.cw.aown.2 with ⟨h, h0⟩ | ⟨g, _, _, h, _⟩
                · omega
                · simp only [Value.slice.injEq] at h
                  exact ⟨g, h.1⟩
              subst hg
              have hcapA : A.length ≤ capA := by
                rcases HC.out.cw.aown.2 with ⟨h, h0⟩ | ⟨g, cap', _, h, _, _, hle, _⟩
                · omega
                · simp only [Value.slice.injEq] at h
                  omega
              clear HD HI
              obtain ⟨cB, hcB⟩ : ∃ cB : Bool, cB = (decide (0 < cs.length) && decide (i < 300)) := ⟨_, rfl⟩
              have HCB := hid hcB
              clear hcB
              go_upto_region 23 with fail
              go_cut [103] (fun s103 wx => wx = wr ∧ s103 = .bool cB)
              case first =>
                by_cases hc0 : 0 < cs.length
                · have hcp' : (0 : Int) < (cs.length : Int) := by omega
                  by_cases hi0 : i < 300
                  · have hi1 : (i : Int) < 300 := by omega
                    go_wp2
                    go_meet
                    exact ⟨rfl, by rw [HCB.out]; simp [hc0, hi0]⟩
                  · have hi1 : ¬ (i : Int) < 300 := by omega
                    go_wp2
                    go_meet
                    exact ⟨rfl, by rw [HCB.out]; simp [hi0]⟩
                · have hcp' : ¬ (0 : Int) < (cs.length : Int) := by omega
                  go_wp2
                  go_meet
                  exact ⟨rfl, by rw [HCB.out]; simp [hc0]⟩
              case rest =>
                obtain ⟨rfl, rfl⟩ := hcut
                go_upto_if 103 with fail
                go_cut [17] (fun s17 wx => wx = wc ∧ ∃ K : Nat, s17 = .int .i64 (K : Int) ∧ K ≤ A.length - q ∧ (i = 300 → K = A.length - q))
                case first =>
                  cases cB
                  · go_wp2
                    go_meet
                    exact ⟨rfl, A.length - q, by go_num, by omega, fun _ => rfl⟩
                  · have hbb := HCB.out
                    simp at hbb
                    obtain ⟨hcp, hi0⟩ := hbb
                    have hcp' : (0 : Int) < (cs.length : Int) := by omega
                    obtain ⟨cb, coff, hcao, hcc⟩ := HCC.out (List.length_pos_iff.1 hcp)
                    subst hcao
                    have him : i % cs.length < cs.length := Nat.mod_lt _ hcp
                    have hcw := hcc (i % cs.length) him
                    have hcr : wc.cell? ⟨cb, coff + i % cs.length, none⟩ = some (.int .i64 (cs.getD (i % cs.length) 0)) := by
                      rw [HC.out.cw.below.cell (p := ⟨cb, coff + i % cs.length, none⟩) (World.block_lt_of_cell? w _ hcw)]
                      exact hcw
                    generalize cs.getD (i % cs.length) 0 = cc at *
                    obtain ⟨rr, hrr, hrl⟩ : ∃ rr : Nat, cc % 40 = (rr : Int) ∧ rr < 40 := ⟨(cc % 40).toNat, by omega, by omega⟩
                    have HRR := hid hrr
                    clear hcc hcw hrr
                    go_wp2_with fail
                    refine (round_any cc 40 _ (by decide) (by decide)).mono ?_
                    rintro e w5 ⟨rfl, hw5⟩
                    have hw5 := hw5.symm
                    subst hw5
                    rw [HRR.out]
                    by_cases hmin : A.length - q ≤ rr
                    · have hmin' : (A.length : Int) - (q : Int) ≤ (rr : Int) := by omega
                      go_wp2
                      go_meet
                      exact ⟨rfl, A.length - q, by go_num, by omega, fun _ => rfl⟩
                    · have hmin' : (rr : Int) < (A.length : Int) - (q : Int) := by omega
                      go_wp2
                      go_meet
                      exact ⟨rfl, rr, by go_num, by omega, fun h => by omega⟩
                case rest =>
                  obtain ⟨rfl, K, rfl, hK1, hK2⟩ := hcut
                  have hK3 : (q : Int) + (K : Int) ≤ (capA : Int) := by omega
                  have hK4 : ¬ capA = q := by omega
                  go_wp2_with fail
                  refine (feed_any N N v 65536 fed told 0 _ ((A.drop q).take K) _ HC.out.fz (bs_mid HC.out.cw.aown q K _ (by omega)) (by have := HC.out.size; omega) (by have := HC.out.sm; simp; omega) (getD_take_lt (getD_drop_lt HC.out.a8 q) K)).mono ?_
                  rintro e w5 ⟨rfl, v5, hz5, hf5, _⟩
                  rw [if_pos rfl] at hz5
                  have HC5 := hid (HC.out.fed K hK1 hz5 hf5)
                  have HI6 : Hid (i + 1 ≤ 300 ∨ (i + 1 ≤ 301 ∧ q + K = A.length)) := by
                    show i + 1 ≤ 300 ∨ (i + 1 ≤ 301 ∧ q + K = A.length)
                    omega
                  clear hz5 hf5 HC
                  go_wp2_with fail
                  go_loopw [15] (fun tt wx => ∃ (t' : Nat) (fed' : List Nat) (told' : Nat) (v' : Value), tt = .int .i64 (t' : Int) ∧ Hid (C2 w N bad (.slice (some ⟨g, 0, none⟩) A.length capA) (.slice aog gs.length capg) gs Vs A t' (q + K) fed' told' v' wx)) (fun tt _ => gs.length - (intOf tt).toNat)
                  case atStart => exact ⟨t, _, told, v5, rfl, HC5⟩
                  case round =>
                    obtain ⟨t2, fed2, told2, v2, rfl, HJ⟩ := hrel
                    have htle := HJ.out.tle
                    by_cases ht2 : t2 < gs.length
                    · obtain ⟨b, hb⟩ : ∃ b, b = gs.getD t2 [] := ⟨_, rfl⟩
                      have hbm : b ∈ gs := by rw [hb]; simp only [List.getD, List.getElem?_eq_getElem ht2, Option.getD_some]; exact List.getElem_mem ht2
                      have hb1 : 1 ≤ b.length := (HJ.out.cw.good b hbm).1.1
                      have hb2 : b.length ≤ 65536 := (HJ.out.cw.good b hbm).1.2
                      have HST : Hid (fed2.drop told2 ++ A.drop (q + K) = frameB b ++ (cat (gs.drop (t2 + 1)) ++ tailB bad)) := by
                        have := HJ.out.st
                        rw [drop_cat ht2, List.append_assoc, ← hb] at this
                        exact this
                      have HBB := hid hb
                      clear hb hbm
                      by_cases hlen : (fed2.drop told2).length < 4 + b.length
                      · have HD6 : Hid (q + K = A.length → t2 = gs.length ∧ bad = false ∧ fed2.drop told2 = []) := by
                          intro h
                          exfalso
                          have e := congrArg List.length HST.out
                          rw [h, List.drop_length, List.append_nil, List.length_append, frameB_length] at e
                          omega
                        have HL := hid hlen
                        clear hlen
                        go_wp2_with fail
                        refine (next_no N N v2 65536 fed2 told2 _ HJ.out.fz HJ.out.fz.b8 _ b _ HST.out hb1 hb2 (by omega) HL.out).mono ?_
                        rintro e w6 ⟨rfl, n6, rfl⟩
                        unfold noFrame
                        have HJ6 := hid (HJ.out.drewN n6)
                        go_wp2
                        exact ⟨⟨q + K, t2, i + 1, fed2, told2, v2, by go_num, rfl, by go_num, HJ6, HD6, HI6⟩, by simp [intOf]; omega⟩
                      · have HL : Hid (4 + b.length ≤ (fed2.drop told2).length) := Nat.le_of_not_lt hlen
                        clear hlen
                        go_wp2_with fail
                        refine (next_yes N N v2 65536 fed2 told2 _ HJ.out.fz (by have := HJ.out.size; omega) HJ.out.fz.b8 _ b _ HST.out hb1 hb2 (by omega) HL.out).mono ?_
                        rintro e w6 ⟨P', hP', bv, v6, fed6, told6, rfl, hbo, hz6, hd6, hf6, _, _, hl6⟩
                        have HJ6 := hid (HJ.out.told ht2 hz6 hf6 (by rw [hd6]; exact hP') hl6)
                        obtain ⟨gg, hgg⟩ : ∃ gg, aog = some ⟨gg, 0, none⟩ := by
                          rcases HJ6.out.cw.gown.2 with ⟨h, h0⟩ | ⟨gg, _, _, h, _⟩
                          · omega
                          · simp only [Value.slice.injEq] at h
                            exact ⟨gg, h.1⟩
                        subst hgg
                        have hcg : w6.cell? ⟨gg, t2, none⟩ = some (Vs.getD t2 (.slice none 0 0)) := by
                          have hvl := HJ6.out.cw.vlen
                          have := HJ6.out.cw.gown.cells (g := gg) rfl t2 (Vs.getD t2 (.slice none 0 0)) (by simp [List.getD, List.getElem?_eq_getElem (show t2 < Vs.length by omega)])
                          rw [Addr.add_lit, Nat.zero_add] at this
                          exact this
                        have hbs2 := (HJ6.out.cw.bss t2 ht2).1
                        rw [← HBB.out] at hbs2
                        obtain ⟨aov, capv, hv⟩ := slice_shape hbs2
                        rw [hv] at hcg hbs2
                        obtain ⟨aob, capb, rfl⟩ := own_nil_shape hbo
                        have hq1 := fun n => conv8 ((own_bs hbo).fr ((Fr.refl w6 (fun _ => False)).drewN n) (fun _ _ h => h))
                        have hq2 := fun n => conv8 (hbs2.fr ((Fr.refl w6 (fun _ => False)).drewN n) (fun _ _ h => h))
                        have hb1' : (1 : Int) ≤ (b.length : Int) := by omega
                        generalize str8 b = SS at hq1 hq2
                        have HJ7 := hid (fun n => HJ6.out.drewN n)
                        have tt1 : (t2 : Int) < (gs.length : Int) := by omega
                        have tt2 : decide ((gs.length : Int) ≤ (t2 : Int)) = false := by simp; omega
                        clear hbo hbs2 hv hz6 hd6 hf6 hl6 hP' HST HL
                        go_wp2_with fail
                        go_quiet (fail)
                        go_wp2
                        exact ⟨⟨t2 + 1, fed6, told6, v6, by go_num, HJ7.out _⟩, by simp [intOf]; omega⟩
                    · have ht3 : t2 = gs.length := by omega
                      have HP : Hid (fed2.drop told2 ++ A.drop (q + K) = tailB bad) := by
                        have := HJ.out.st
                        rw [ht3, List.drop_length, cat, List.nil_append] at this
                        exact this
                      cases bad
                      · have hnil : fed2.drop told2 = [] ∧ A.drop (q + K) = [] := List.append_eq_nil_iff.1 HP.out
                        have HNL := hid hnil.1
                        have HD6 : Hid (q + K = A.length → t2 = gs.length ∧ false = false ∧ fed2.drop told2 = []) := fun _ => ⟨ht3, rfl, HNL.out⟩
                        have HT3 := hid ht3
                        clear hnil ht3
                        go_wp2_with fail
                        refine (next_none N N v2 65536 fed2 told2 _ HJ.out.fz HNL.out).mono ?_
                        rintro e w6 ⟨rfl, n6, rfl⟩
                        unfold noFrame
                        have HJ6 := hid (HJ.out.drewN n6)
                        go_wp2
                        exact ⟨⟨q + K, t2, i + 1, fed2, told2, v2, by go_num, rfl, by go_num, HJ6, HD6, HI6⟩, by simp [intOf]; omega⟩
                      · by_cases h4 : fed2.length - told2 < 4
                        · have HD6 : Hid (q + K = A.length → t2 = gs.length ∧ true = false ∧ fed2.drop told2 = []) := by
                            intro h
                            exfalso
                            have e := congrArg List.length HP.out
                            rw [h, List.drop_length, List.append_nil, List.length_drop] at e
                            simp [tailB] at e
                            omega
                          have HT3 := hid ht3
                          have H4 := hid h4
                          clear ht3 h4
                          go_wp2_with fail
                          refine (next_short N N v2 65536 fed2 told2 _ HJ.out.fz H4.out).mono ?_
                          rintro e w6 ⟨rfl, n6, rfl⟩
                          unfold noFrame
                          have HJ6 := hid (HJ.out.drewN n6)
                          go_wp2
                          exact ⟨⟨q + K, t2, i + 1, fed2, told2, v2, by go_num, rfl, by go_num, HJ6, HD6, HI6⟩, by simp [intOf]; omega⟩
                        · have HBH := hid (bad_head HP.out (by rw [List.length_drop]; omega))
                          have et : ((t2 : Int) == (gs.length : Int)) = true := by simp; omega
                          have H4 := hid h4
                          have HT3 := hid ht3
                          clear ht3 h4
                          go_wp2_with fail
                          refine (next_bad N N v2 65536 fed2 told2 _ HJ.out.fz HJ.out.fz.b8 (Nat.le_of_not_lt H4.out) (Or.inr HBH.out)).mono ?_
                          rintro e w6 ⟨rfl, v6, hz6, hf6, _⟩
                          have HB6 := hid ((HJ.out.cwfr hf6).below)
                          clear hz6 hf6
                          unfold noFrame
                          go_wp2_with (go_at_call 21; refine (head_any _).mono ?_; rintro e w7 ⟨rfl, hb7⟩; have HB7 := hid (HB6.out.trans (hb7.mono HB6.out.size)); clear hb7)
                          go_ret
                          exact ⟨rfl, HB7.out⟩
            · have hqa : q = A.length := by omega
              subst hqa
              obtain ⟨e1, e2, e3⟩ := HD.out rfl
              subst e2
              have hh : heldN fed told 0 = 0 := by
                have := congrArg List.length e3
                simp at this
                simp [heldN]
                omega
              have HH := hid hh
              have et : ((t : Int) == (gs.length : Int)) = true := by simp; omega
              clear hh e3 HD HI hq
              have E1 := hid e1
              clear e1
              go_wp2_with (first
                | (go_at_call 28; refine (held_any _ _ v 65536 fed told 0 _ HC.out.fz).mono ?_; rintro e w6 ⟨rfl, n6, rfl⟩; rw [HH.out]; have HB6 := hid (below_drewN HC.out.cw.below n6))
                | (go_at_call 21; refine (head_any _).mono ?_; rintro e w7 ⟨rfl, hb7⟩; have HB7 := hid (HB6.out.trans (hb7.mono HB6.out.size)); clear hb7))
              go_ret
              exact ⟨rfl, HB7.out⟩

theorem Try.bytes24 : Try.prog.bytesOf 24 = 24 := by kernel_rfl
theorem Try.bytes3 : Try.prog.bytesOf 3 = 8 := by kernel_rfl

/-- A slice's length, by the reach. -/
theorem len_of_trod {H : Type} {enc : TypeId × Value → H} {W : World} {base : Nat} {held : Bool} {fuel : Nat} {a0 : Option Addr} {len cap : Nat} {d : DataW H} {pl : List MemPlace} {t e : TypeId} (hu : Try.prog.underlying t = some (.slice e)) (hb : 1 ≤ Try.prog.bytesOf e) (h : DataW.trod enc Try.prog W base (fun _ => true) held fuel t [.slice a0 len cap] = some (d, pl))
    {ts : List TypeId} {ds : List (DataW H)} (hsz : (DataW.weightsEach Try.prog ts ds).all (· ≤ reachBytes) = true) {j : Nat} (ht : ts[j]? = some t) (hd : ds[j]? = some d) : len ≤ 140737488355328 := by
  rcases Go.Deep.open_slice hu h with ⟨hcs, _⟩ | ⟨a, len', cap', m, n, D, Pl, hcs, _, hl, hm, hmm, hx, _⟩
  · simp at hcs
    omega
  · simp at hcs
    obtain ⟨rfl, rfl, rfl⟩ := hcs
    simp only [Prod.mk.injEq] at hx
    have := sized_slice hsz ht (by rw [hd, hx.1]) hu
    simp only [List.length_map, List.length_range, reachBytes] at this
    have h2 : len ≤ (len + (m - len)) * Try.prog.bytesOf e := Nat.le_trans (Nat.le_add_right _ _) (Nat.le_mul_of_pos_right _ hb)
    omega

set_option maxRecDepth 100000 in
theorem cuts_lifted (os : Os) (started : os.Started) (H : Type) (enc : TypeId × Value → H) :
    ReturnsInHanded {} Try.checked os 5 .any (Rows.wireCutsSpec.pre6 enc Try.prog Try.f5 Rows.wireCutsRow.domain false) (Rows.wireCutsSpec.post enc Try.prog Try.f5 false true false false) := by
  refine returnsInHanded_of_change_sized (C := Try.checked) cutsOwn started (by kernel_rfl) Try.func5
    (ChangeSpec.witness6 (enc := enc) (C := Try.checked) false ⟨#[], #[.slice none 0 0, .slice none 0 0, .bool false], []⟩ 8 (by kernel_rfl) (by kernel_rfl) (by kernel_rfl) (by kernel_rfl)) ?_
  intro W base args ds gs before hval0 hW _ hsz0 _
  have hsz : (DataW.weightsEach Try.prog (Try.f5.params.toList ++ Rows.wireCutsSpec.plain.varTypes Try.prog) (ds ++ gs)).all (· ≤ reachBytes) = true := hsz0
  clear hsz0
  have hval : ∀ (j : Nat) t v, Try.f5.params[j]? = some t → args[j]? = some v → Value.okWide Try.prog W .any base t v := hval0
  have hW' := hW
  obtain ⟨p, q, hA0, hV, rfl, _, _⟩ := hW
  have hA : DataW.TrodAll enc Try.prog W 0 (fun _ => true) true Try.f5.params.toList args.toList ds p := hA0
  rw [Try.params5] at hA hval hsz
  obtain ⟨v0, v1, v2, d0, d1, d2, p0, p1, p2, rfl, rfl, rfl, h0, h1, h2⟩ := trodAll_three hA
  obtain ⟨rfl, rfl⟩ := trodVars_none hV
  obtain ⟨a0, len0, cap0, rfl⟩ := okWide_slice Try.underlying49 (hval 0 49 v0 rfl rfl)
  obtain ⟨a1, len1, cap1, rfl⟩ := okWide_slice Try.underlying50 (hval 1 50 v1 rfl rfl)
  obtain ⟨x2, rfl, rfl, rfl⟩ := open_bool Try.underlying4 (hval 2 4 v2 rfl rfl) h2
  have k0 := h0
  have k1 := h1
  have lt0 : ∀ x ∈ p0, x.block < W.heap.size := by obtain ⟨m, hm⟩ := k0; exact DataW.trod_lt m _ _ _ hm
  have lt1 : ∀ x ∈ p1, x.block < W.heap.size := by obtain ⟨m, hm⟩ := k1; exact DataW.trod_lt m _ _ _ hm
  obtain ⟨f0, hf0⟩ := h0
  obtain ⟨f1, hf1⟩ := h1
  have hf0' : DataW.trod enc Try.prog W 0 (fun _ => true) true f0 49 [.slice a0 len0 cap0] = some (d0, p0) := by simpa [Value.cells] using hf0
  have hf1' : DataW.trod enc Try.prog W 0 (fun _ => true) true f1 50 [.slice a1 len1 cap1] = some (d1, p1) := by simpa [Value.cells] using hf1
  have hl0 := len_of_trod Try.underlying49 (by rw [Try.bytes24]; decide) hf0' hsz (j := 0) rfl rfl
  have hl1 := len_of_trod Try.underlying50 (by rw [Try.bytes3]; decide) hf1' hsz (j := 1) rfl rfl
  obtain ⟨bs, hb8, hbs⟩ := bss_of_trod hf0'
  obtain ⟨cs, hcs⟩ := css_of_trod hf1' hl1
  have hbl : bs.length ≤ 140737488355328 := by
    obtain ⟨ao, cap, e, _⟩ := hbs
    simp only [Value.slice.injEq] at e
    omega
  clear hA0 hval0
  refine (cuts_walk _ _ bs cs x2 W hbs hcs hbl hb8).mono fun e W' ⟨he, bel⟩ => ?_
  subst he
  exact ⟨_, rfl, _, _, _, [], _, [], hW', trodAll_mk1 (shut_bool Try.underlying4 _), trodAll_mk3 (Below.trod cutsLaid (by kernel_rfl) (of_decide_eq_true (by kernel_rfl)) k0 bel lt0) (Below.trod cutsLaid (by kernel_rfl) (of_decide_eq_true (by kernel_rfl)) k1 bel lt1) (shut_bool Try.underlying4 _), rfl, bel.frame _, fun h => by cases h⟩

theorem cuts_over : Rows.wireCutsRow.holds Try.pinned (OpenSpec.ofChange Rows.wireCutsSpec) :=
  OpenClaim.holds_of_wide 5 Try.f5 rfl rfl rfl rfl rfl rfl rfl ⟨rfl, rfl, rfl, rfl, rfl⟩ rfl rfl rfl rfl rfl (by kernel_rfl) Try.func5 (by kernel_rfl)
    (of_decide_eq_true (by kernel_rfl)) (by unfold Func.isWrapper; first | (rw [if_pos (by decide +kernel)]; kernel_rfl) | (rw [if_neg (by decide +kernel)]; exact ⟨rfl, rfl⟩))
    (fun os started H enc _ => cuts_lifted os started H enc)

theorem wireCuts_holds : Rows.WireCutsSaid := cuts_over
#print axioms wireCuts_holds
end Go.Proofs.Ytfoapnmljnonlab
