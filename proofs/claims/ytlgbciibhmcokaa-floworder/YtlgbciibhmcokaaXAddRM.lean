/- flow.ring: add: a walk. -/
import Derived.Test.YtlgbciibhmcokaaXMove2RM
namespace Go.Proofs.Ytlgbciibhmcokaa.RM
open Go.RowKit

set_option maxHeartbeats 1000000 in
theorem add_full {w : World} {b : Nat} {T : TypeId} {A C : List Value} {v : Value} {st most o : Nat} (hb : RB w b T A C v st most most) (ho : A.length = o) (x : Ms) : Calls Try.prog 38 #[.pointer (some ⟨b, o, none⟩), vM x] w fun e w' => e = .returned (.bool false) ∧ Fr w w' (fun _ => False) := by
  obtain ⟨c0, c1, c2, c3⟩ := hb.cells ho
  have hbl := hb.lt
  clear hb c0 c1
  unfold vM
  go_enter Try.func38, Try.ntmps38
  go_wp2_with fail
  go_quiet (fail)
  go_wp2_with fail
  go_ret
  exact ⟨rfl, ((Fr.refl _ _).alloc _).drewN _⟩
/-- move of a ring that is full. -/
theorem move_any {w : World} {b : Nat} {T : TypeId} {A C : List Value} {v : Value} {st most o : Nat} {L : List Ms} (hb : RB w b T A C v st L.length most) (ho : A.length = o) (hr : RR w v st L) (hT : T ≠ 85) (hlt : L.length < most) (hm6 : most ≤ 65536) (hfull : ¬ ∃ g R, v = .slice (some ⟨g, 0, none⟩) R.length R.length ∧ Row elM 85 w g R [] ∧ Rot ms0 R st L ∧ R.length ≤ 65536 ∧ L.length < R.length) :
    (∃ ao, v = .slice ao L.length L.length) ∧ ∀ W, Fr w W (fun _ => False) → Calls Try.prog 46 #[.pointer (some ⟨b, o, none⟩)] W fun e w' => e = .returned (.tuple #[]) ∧ ∃ G R, RB w' b T A C (.slice (some ⟨G, 0, none⟩) R.length R.length) 0 L.length most ∧ Row elM 85 w' G R [] ∧ Rot ms0 R 0 L ∧ L.length < R.length ∧ R.length ≤ 65536 ∧ W.heap.size ≤ G ∧ Fr W w' (fun k => k = b) := by
  have hne := hr.ne hb hT
  rcases hr with ⟨rfl, rfl, rfl⟩ | ⟨g, R, rfl, hR, hrot, hRl⟩
  · refine ⟨⟨none, rfl⟩, fun W hW => (move_nil (hb.fr hW (fun h => h)) ho (by simpa using hlt) hm6).mono ?_⟩
    rintro e w' ⟨rfl, G, N, h1, h2, h3, h4, h5⟩
    have hn := newN_lt (show 0 < most by simpa using hlt)
    refine ⟨rfl, G, N, by rw [h3]; exact h1, h2, Rot.front (L := []) N (by simpa using (by omega : 0 < N.length)), by simp; omega, by have := @newN_le 0 most; omega, h4, h5⟩
  · have hl : R.length = L.length := by
      have h1 := hrot.2.1
      rcases Nat.lt_or_ge L.length R.length with h | h
      · exact absurd ⟨g, R, rfl, hR, hrot, hRl, h⟩ hfull
      · omega
    have hmv := hrot.move hl.symm
    refine ⟨⟨_, by rw [hl]⟩, fun W hW => ?_⟩
    rw [← hl] at hb hlt ⊢
    refine (move_row (hb.fr hW (fun h => h)) ho (hR.fr hW (fun h => h)) hrot.1 hlt hm6 (fun e => hne (by simp [Value.ownBlock, e]))).mono ?_
    rintro e w' ⟨rfl, G, N, h1, h2, h3, h4, h5⟩
    rw [hmv] at h2 h3
    have hn := newN_lt hlt
    exact ⟨rfl, G, L ++ N, by rw [h3]; exact h1, h2, Rot.front N (by omega), by omega, by have := @newN_le R.length most; omega, h4, h5⟩
/-- What add stands in: its ring not full. -/
structure AD (w : World) (b : Nat) (T : TypeId) (A C : List Value) (st cnt most g : Nat) (R : List Ms) (w' : World) : Prop where
  rb : RB w' b T A C (.slice (some ⟨g, 0, none⟩) R.length R.length) st cnt most
  row : Row elM 85 w' g R []
theorem AD.step {w w' w'' : World} {b : Nat} {T : TypeId} {A C : List Value} {st cnt most g : Nat} {R : List Ms} (h : AD w b T A C st cnt most g R w') (hf : Fr w' w'' (fun _ => False)) : AD w b T A C st cnt most g R w'' := ⟨h.rb.fr hf (fun h => h), h.row.fr hf (fun h => h)⟩
/-- What add leaves. -/
def Added (w : World) (b : Nat) (T : TypeId) (A C : List Value) (v : Value) (L : List Ms) (x : Ms) (most : Nat) (w' : World) : Prop :=
  ∃ v' st', RB w' b T A C v' st' (L.length + 1) most ∧ RR w' v' st' (L ++ [x]) ∧ Fr w w' (fun k => k = b ∨ v.ownBlock = some k) ∧ Nw w v v'
set_option maxHeartbeats 4000000 in
theorem add_ok {w : World} {b : Nat} {T : TypeId} {A C : List Value} {v : Value} {st most o : Nat} {L : List Ms} (hb : RB w b T A C v st L.length most) (ho : A.length = o) (hr : RR w v st L) (hT : T ≠ 85) (hlt : L.length < most) (hm6 : most ≤ 65536) (x : Ms) : Calls Try.prog 38 #[.pointer (some ⟨b, o, none⟩), vM x] w fun e w' => e = .returned (.bool true) ∧ Added w b T A C v L x most w' := by
  have hne := hr.ne hb hT
  by_cases hfull : ∃ g R, v = .slice (some ⟨g, 0, none⟩) R.length R.length ∧ Row elM 85 w g R [] ∧ Rot ms0 R st L ∧ R.length ≤ 65536 ∧ L.length < R.length
  · obtain ⟨g, R, rfl, hR, hrot, hRl, hLR⟩ := hfull
    obtain ⟨c0, c1, c2, c3⟩ := hb.cells ho
    have hbl := hb.lt
    have hgb : g ≠ b := fun e => hne (by simp [Value.ownBlock, e])
    have HRT := hid hrot
    have HRL := hid hRl
    have HCN := hid hLR
    have HGB := hid hgb
    have HAD0 : Hid (AD w b T A C st L.length most g R w) := ⟨hb, hR⟩
    have HSZ : Hid (b < w.heap.size ∧ g < w.heap.size) := ⟨hb.lt, hR.lt⟩
    have HADD := hid (hrot.add hLR x)
    have t1 : ((L.length : Int) == (most : Int)) = false := by simp; omega
    have t2 : ((L.length : Int) == (R.length : Int)) = false := by simp; omega
    clear hne hr hb hR hrot hgb
    unfold vM
    generalize hLc : L.length = cnt at *
    have HLC := hid hLc
    clear hLc
    go_enter Try.func38, Try.ntmps38
    go_wp2_with fail
    have HX : Hid ((w.alloc (.cells (elM x).toArray 85)).heap[w.heap.size]? = some (.cells (elM x).toArray 85 (0, 0))) := new_el rfl
    have HF := hid (alloc_fr w (.cells (elM x).toArray 85) (fun _ => False))
    have HAD := hid (HAD0.out.step HF.out)
    clear c0 c1 c2 c3 hbl HAD0
    unfold elM at HX HF HAD
    generalize (w.alloc (.cells _ 85)) = w1 at *
    have HNN := hid (Nat.le_refl w.heap.size)
    generalize hNq : w.heap.size = N at HX ⊢
    clear hNq
    obtain ⟨c0, c1, c2, c3⟩ := HAD.out.rb.cells ho
    have hbl := HAD.out.rb.lt
    go_quiet (fail)
    have HAD2 := hid (HAD.out.step ((Fr.refl w1 (fun _ => False)).drewN nq))
    have HX2 := hid (keep_block HX.out ((Fr.refl w1 (fun _ => False)).drewN nq) (fun h => h))
    have HF2 := hid (HF.out.drewN nq)
    clear HAD HX HF c0 c1 c2 c3 hbl
    generalize w1.drewN nq = w2 at *
    obtain ⟨c0, c1, c2, c3⟩ := HAD2.out.rb.cells ho
    have hbl := HAD2.out.rb.lt
    go_wp2_with fail
    go_quiet (fail)
    rename_i nq1
    have HAD := hid (HAD2.out.step ((Fr.refl w2 (fun _ => False)).drewN nq))
    have HX := hid (keep_block HX2.out ((Fr.refl w2 (fun _ => False)).drewN nq) (fun h => h))
    have HFW : Hid (Fr w (w2.drewN nq) (fun k => k = b ∨ (Value.slice (some ⟨g, 0, none⟩) R.length R.length).ownBlock = some k)) := (HF2.out.drewN nq).mono (fun _ _ h => h.elim)
    have HGO : Hid (g < w.heap.size → (Value.slice (some ⟨g, 0, none⟩) R.length R.length).ownBlock = some g) := fun _ => rfl
    clear HAD2 HX2 HF2 c0 c1 c2 c3 hbl
    generalize w2.drewN nq = WV at *
    obtain ⟨c0, c1, c2, c3⟩ := HAD.out.rb.cells ho
    have hbl := HAD.out.rb.lt
    have hgl := HAD.out.row.lt
    have hfg := HAD.out.row.free
    have hex := el_cells HX.out
    have hxl := lt_of_block HX.out
    have HJ : Hid ((st + cnt) % R.length < R.length) := Nat.mod_lt _ (by have := HRT.out.1; omega)
    have heg := Row.el HAD.out.row HJ.out
    have hm3 : ((st : Int) + (cnt : Int)).tmod (R.length : Int) = (((st + cnt) % R.length : Nat) : Int) := by rw [Int.tmod_eq_emod_of_nonneg (by omega)]; rfl
    have hm4 : ¬ (R.length : Int) = 0 := by have := HRT.out.1; omega
    have hm5 : ¬ R.length = 0 := by have := HRT.out.1; omega
    have hj1 : (((st + cnt) % R.length : Nat) : Int) < (R.length : Int) := by have := HJ.out; omega
    have hj0 : (0 : Int) ≤ (((st + cnt) % R.length : Nat) : Int) := by omega
    have hs1 : st < R.length := HRT.out.1
    have hs2 : cnt < R.length := HCN.out
    have hs3 : R.length ≤ 65536 := HRL.out
    have HAD2 : Hid (∀ W, W = (puts WV g ((st + cnt) % R.length * 5) x).drew → RB W b T A C (.slice (some ⟨g, 0, none⟩) R.length R.length) st cnt most ∧ Row elM 85 W g (R.set ((st + cnt) % R.length) x) []) := fun W hW => by
      rw [hW]
      exact ⟨HAD.out.rb.fr (puts_fr1 _ _ _ _).drew (fun e => HGB.out e.symm), (Row.puts HAD.out.row HJ.out x).fr (Fr.refl _ (fun _ => False)).drew (fun h => h)⟩
    generalize (st + cnt) % R.length = j at *
    generalize hRn : R.length = n at *
    have HRN := hid hRn
    clear hRn
    go_wp2_with fail
    go_region
    obtain ⟨w4, hw4⟩ : ∃ W, W = (puts WV g (j * 5) x).drew := ⟨_, rfl⟩
    obtain ⟨hb4, hr4⟩ := HAD2.out w4 hw4
    have HB4 := hid hb4
    have HR4 := hid hr4
    have HF4 : Hid (Fr WV w4 (fun k => k = g)) := by rw [hw4]; exact (puts_fr1 _ _ _ _).drew
    unfold puts at hw4
    rw [← hw4]
    clear hw4 HAD2 hb4 hr4 HAD c0 c1 c2 c3 hbl hgl hfg hex hxl heg
    obtain ⟨c0, c1, c2, c3⟩ := HB4.out.cells ho
    have hbl := HB4.out.lt
    have hfb := HB4.out.free
    go_wp2_with fail
    go_ret
    have hset := HB4.out.set2 ho (cnt + 1)
    have hfs := set_fr w4 b (o + 2) (.int .i64 ((cnt + 1 : Nat) : Int))
    have e1 := HRN.out
    have e2 := HLC.out
    subst e1 e2
    refine ⟨rfl, .slice (some ⟨g, 0, none⟩) R.length R.length, st, hset, Or.inr ⟨g, R.set j x, by rw [List.length_set], HR4.out.fr hfs HGB.out, HADD.out, by rw [List.length_set]; exact HRL.out⟩, ?_, fun k hk => ?_⟩
    · exact (HFW.out.trans2 HF4.out (fun k hk e => by rw [e] at hk ⊢; exact Or.inr (HGO.out hk))).trans2 hfs (fun _ _ e => Or.inl e)
    · simp [Value.ownBlock] at hk
      rw [← hk]
      rcases Nat.lt_or_ge g w.heap.size with h | h
      · exact Or.inl (HGO.out h)
      · exact Or.inr h
  · obtain ⟨⟨ao, hv⟩, hmv⟩ := move_any hb ho hr hT hlt hm6 hfull
    obtain ⟨c0, c1, c2, c3⟩ := hb.cells ho
    have hbl := hb.lt
    have HB0 := hid hb
    have HMV := hid hmv
    have HLT := hid hlt
    have t1 : ((L.length : Int) == (most : Int)) = false := by simp; omega
    have HOW := hid hv
    rw [hv] at c0
    clear hne hr hb hfull hmv hlt
    unfold vM
    generalize hLc : L.length = cnt at *
    have HLC := hid hLc
    clear hLc hv
    go_enter Try.func38, Try.ntmps38
    go_wp2_with fail
    have HX0 : Hid ((w.alloc (.cells (elM x).toArray 85)).heap[w.heap.size]? = some (.cells (elM x).toArray 85 (0, 0))) := new_el rfl
    have HF := hid (alloc_fr w (.cells (elM x).toArray 85) (fun _ => False))
    have HB1 := hid (HB0.out.fr HF.out (fun h => h))
    clear c0 c1 c2 c3 hbl
    have HBL : Hid (b < w.heap.size) := HB0.out.lt
    unfold elM at HX0 HF HB1
    generalize (w.alloc (.cells _ 85)) = w1 at *
    have HNN : Hid (∀ N, w.heap.size = N → w.heap.size ≤ N) := fun N h => by omega
    generalize hNq : w.heap.size = N at HX0 ⊢
    replace HNN := hid (HNN.out N hNq)
    have HBN : Hid (b < N) := by have := HBL.out; show _ < _; omega
    clear hNq
    obtain ⟨c0, c1, c2, c3⟩ := HB1.out.cells ho
    rw [HOW.out] at c0
    have hbl := HB1.out.lt
    go_quiet (fail)
    have HF2 := hid (HF.out.drewN nq)
    have HX1 := hid (keep_block HX0.out ((Fr.refl w1 (fun _ => False)).drewN nq) (fun h => h))
    clear HB1 HX0 HF c0 c1 c2 c3 hbl
    generalize w1.drewN nq = w2 at *
    have HB2 := hid (HB0.out.fr HF2.out (fun h => h))
    obtain ⟨c0, c1, c2, c3⟩ := HB2.out.cells ho
    rw [HOW.out] at c0
    have hbl := HB2.out.lt
    go_wp2_with fail
    go_quiet (fail)
    rename_i nq1
    have HF3 := hid (HF2.out.drewN nq)
    have HX2 := hid (keep_block HX1.out ((Fr.refl w2 (fun _ => False)).drewN nq) (fun h => h))
    clear HB2 HX1 HF2 c0 c1 c2 c3 hbl
    generalize w2.drewN nq = w3 at *
    go_wp2_with fail
    refine (HMV.out _ HF3.out).mono ?_
    rintro e WV ⟨rfl, g, R, h1, h2, h3, h4, h5, h6, h7⟩
    have HAD : Hid (AD w b T A C 0 cnt most g R WV) := ⟨h1, h2⟩
    have HRT := hid h3
    have HADD := hid (h3.add (by rw [HLC.out]; exact h4) x)
    rw [HLC.out] at HADD
    have HCN := hid h4
    have HRL := hid h5
    have hs3 := HF3.out.size
    have HGB : Hid (g ≠ b) := by have := HBL.out; show ¬ _ = _; omega
    have HX := hid (keep_block HX2.out h7 (by have := HBN.out; omega))
    have HFW : Hid (Fr w WV (fun k => k = b ∨ v.ownBlock = some k)) := (HF3.out.mono (fun _ _ h => h.elim)).trans (h7.mono (fun _ _ h => Or.inl h))
    have HGO : Hid (g < w.heap.size → v.ownBlock = some g) := fun h => by omega
    clear h1 h2 h3 h4 h5 h6 h7 hs3 HX2 HF3 HB0 t1
    obtain ⟨st, hst⟩ : ∃ st : Nat, st = 0 := ⟨_, rfl⟩
    rw [← hst] at HAD HRT HADD
    clear hst
    obtain ⟨c0, c1, c2, c3⟩ := HAD.out.rb.cells ho
    have hbl := HAD.out.rb.lt
    have hgl := HAD.out.row.lt
    have hfg := HAD.out.row.free
    have hex := el_cells HX.out
    have hxl := lt_of_block HX.out
    have HJ : Hid ((st + cnt) % R.length < R.length) := Nat.mod_lt _ (by have := HRT.out.1; omega)
    have heg := Row.el HAD.out.row HJ.out
    have hm3 : ((st : Int) + (cnt : Int)).tmod (R.length : Int) = (((st + cnt) % R.length : Nat) : Int) := by rw [Int.tmod_eq_emod_of_nonneg (by omega)]; rfl
    have hm4 : ¬ (R.length : Int) = 0 := by have := HRT.out.1; omega
    have hm5 : ¬ R.length = 0 := by have := HRT.out.1; omega
    have hj1 : (((st + cnt) % R.length : Nat) : Int) < (R.length : Int) := by have := HJ.out; omega
    have hj0 : (0 : Int) ≤ (((st + cnt) % R.length : Nat) : Int) := by omega
    have hs1 : st < R.length := HRT.out.1
    have hs2 : cnt < R.length := HCN.out
    have hs3 : R.length ≤ 65536 := HRL.out
    have HAD2 : Hid (∀ W, W = (puts WV g ((st + cnt) % R.length * 5) x).drew → RB W b T A C (.slice (some ⟨g, 0, none⟩) R.length R.length) st cnt most ∧ Row elM 85 W g (R.set ((st + cnt) % R.length) x) []) := fun W hW => by
      rw [hW]
      exact ⟨HAD.out.rb.fr (puts_fr1 _ _ _ _).drew (fun e => HGB.out e.symm), (Row.puts HAD.out.row HJ.out x).fr (Fr.refl _ (fun _ => False)).drew (fun h => h)⟩
    generalize (st + cnt) % R.length = j at *
    generalize hRn : R.length = n at *
    have HRN := hid hRn
    clear hRn
    go_wp2_with fail
    go_region
    obtain ⟨w4, hw4⟩ : ∃ W, W = (puts WV g (j * 5) x).drew := ⟨_, rfl⟩
    obtain ⟨hb4, hr4⟩ := HAD2.out w4 hw4
    have HB4 := hid hb4
    have HR4 := hid hr4
    have HF4 : Hid (Fr WV w4 (fun k => k = g)) := by rw [hw4]; exact (puts_fr1 _ _ _ _).drew
    unfold puts at hw4
    rw [← hw4]
    clear hw4 HAD2 hb4 hr4 HAD c0 c1 c2 c3 hbl hgl hfg hex hxl heg
    obtain ⟨c0, c1, c2, c3⟩ := HB4.out.cells ho
    have hbl := HB4.out.lt
    have hfb := HB4.out.free
    go_wp2_with fail
    go_ret
    have hset := HB4.out.set2 ho (cnt + 1)
    have hfs := set_fr w4 b (o + 2) (.int .i64 ((cnt + 1 : Nat) : Int))
    have e1 := HRN.out
    have e2 := HLC.out
    subst e1 e2
    refine ⟨rfl, .slice (some ⟨g, 0, none⟩) R.length R.length, st, hset, Or.inr ⟨g, R.set j x, by rw [List.length_set], HR4.out.fr hfs HGB.out, HADD.out, by rw [List.length_set]; exact HRL.out⟩, ?_, fun k hk => ?_⟩
    · exact (HFW.out.trans2 HF4.out (fun k hk e => by rw [e] at hk ⊢; exact Or.inr (HGO.out hk))).trans2 hfs (fun _ _ e => Or.inl e)
    · simp [Value.ownBlock] at hk
      rw [← hk]
      rcases Nat.lt_or_ge g w.heap.size with h | h
      · exact Or.inl (HGO.out h)
      · exact Or.inr h
end Go.Proofs.Ytlgbciibhmcokaa.RM
