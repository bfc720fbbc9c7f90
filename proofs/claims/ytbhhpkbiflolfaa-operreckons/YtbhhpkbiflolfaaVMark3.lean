/- oper: Mark. -/
import Derived.Test.YtbhhpkbiflolfaaVMark2
namespace Go.Proofs.Ytbhhpkbiflolfaa.V
open Go.RowKit Go.Maps
open M (Cl cmpC cmC cmpC_zero cmpC_flip vC)

theorem kw_nil (b : Nat) (w : World) : Kw b w (.slice none 0 0) [] := ⟨rfl, Or.inl ⟨rfl, rfl⟩⟩
/-- What Mark leaves. -/
def MarkR (w w' : World) (x : Ox) (vs : List Vw) (ms' : List Int) (L : List Cl) (u : Value) : Prop :=
  Kw w.heap.size w' u (goneL vs (leastL ms') L) ∧ Op w' x vs ms' (leftL vs (leastL ms') L) ∧ Fr w w' (fun b => b = x.gm ∨ b = x.mb)

set_option maxHeartbeats 4000000 in
set_option maxRecDepth 100000 in
theorem mark_any {w : World} {x : Ox} {vs : List Vw} {ms : List Int} {L : List Cl} (h : Op w x vs ms L) (hb : L.length ≤ 1000000000) (s t : Int) :
    Calls Try.prog 28 #[.pointer (some ⟨x.B, 0, none⟩), .int .i64 s, .int .i64 t] w fun e w' => ∃ u, e = .returned (.tuple #[u, .int .i64 (riseR ms s t).2]) ∧ MarkR w w' x vs (riseS ms s t) L u := by
  have HR := hid (rise_any h.marks s t)
  have HO := hid h
  obtain ⟨⟨c0, c1, c2, c3, c4⟩, hlt⟩ := h.cells
  have HLE := hid (least_rise h.marks.ok s t)
  have hcs := riseR_cases ms s t
  have HLV := hid h.live
  clear h c0 c2 c4
  generalize riseR ms s t = rr at *
  obtain ⟨rs, en⟩ := rr
  simp only at HR hcs ⊢
  generalize riseS ms s t = ms' at *
  rcases hcs with ⟨hne, rfl, rfl⟩ | ⟨rfl, hrs⟩
  · -- no such mark
    obtain ⟨g1, g2⟩ := gone_none (vs := vs) (m := leastL ms') (L := L) (fun c hc => (HLV.out c hc).2)
    have hn2 : (en != 0) = true := by simpa using hne
    have hn3 : (en == 0) = false := by simpa using hne
    have HNE := hid hne
    clear hne
    go_enter Try.func28, Try.ntmps28
    go_wp2_with fail
    refine HR.out.mono ?_
    rintro e w1 ⟨rfl, hk, hf⟩
    obtain ⟨hos, hmc⟩ := HO.out.rise hk hf
    have HF := hid hf
    have HOS := hid hos
    have HMC := hid hmc
    clear hk hf hos hmc HR
    go_wp2_with fail
    go_ret2
    refine ⟨_, rfl, ?_, ?_, HF.out.mono (fun _ _ h => Or.inl h)⟩
    · rw [g1]; exact kw_nil _ _
    · rw [g2]; exact HOS.out.op HMC.out HO.out.ri HLV.out
  · rcases rs with _ | _
    · -- the least mark is as it was
      have e : leastL ms' = leastL ms := by
        have := of_decide_eq_false hrs.symm
        have := HLE.out
        omega
      obtain ⟨g1, g2⟩ := gone_none (vs := vs) (m := leastL ms') (L := L) (fun c hc => by rw [e]; exact (HLV.out c hc).2)
      have HL2 : Hid (∀ c ∈ L, OkK vs c ∧ shK vs (leastL ms') c = false) := fun c hc => by rw [e]; exact HLV.out c hc
      clear hrs e
      go_enter Try.func28, Try.ntmps28
      go_wp2_with fail
      refine HR.out.mono ?_
      rintro e w1 ⟨rfl, hk, hf⟩
      obtain ⟨hos, hmc⟩ := HO.out.rise hk hf
      have HF := hid hf
      have HOS := hid hos
      have HMC := hid hmc
      clear hk hf hos hmc HR
      go_wp2_with fail
      go_ret2
      refine ⟨_, rfl, ?_, ?_, HF.out.mono (fun _ _ h => Or.inl h)⟩
      · rw [g1]; exact kw_nil _ _
      · rw [g2]; exact HOS.out.op HMC.out HO.out.ri HL2.out
    · -- it rose
      clear hrs HLE
      go_enter Try.func28, Try.ntmps28
      go_wp2_with fail
      refine HR.out.mono ?_
      rintro e w1 ⟨rfl, hk, hf⟩
      obtain ⟨hos, hmc⟩ := HO.out.rise hk hf
      have HF := hid hf
      have HOS := hid hos
      have HRI := hid HO.out.ri
      have HOK : Hid (∀ c ∈ L, OkK vs c) := fun c hc => (HLV.out c hc).1
      clear hk hf HR c1 c3 hlt
      obtain ⟨⟨_, c1, _, _, _⟩, hlt⟩ := hos.cells
      obtain ⟨D, hown, hhas, hsz, hfit⟩ := hmc
      have HFI := hid hfit
      have HST := hid (Rg.start (p := shK vs (leastL ms')) hhas hsz hfit)
      clear hos hhas hfit HLV HO
      have HBW := hid HF.out.size
      go_wp2_with (first
        | (at_range; refine wpList_range_own _ rfl _ 83 rfl 64 99 law Try.underlying83 _ x.mb L.length D rfl hown ?_; intro w0 hrg0 hg0 hs0)
        | go_in)
      go_frame
      have HG0 : Hid (Fr w1 w0 (fun _ => False)) := ⟨hg0.os, hg0.tape, hg0.output, hg0.size, fun i hi _ => hg0.block i hi (by simp)⟩
      have HM0 : Hid (Mr w x vs ms' L w1.heap.size (Maps.size D) (.slice none 0 0) w0) := ⟨⟨D, _, [], hrg0, HST.out, kw_nil _ _⟩, HOS.out.step HG0.out, (HF.out.mono (fun _ _ h => Or.inl h)).trans2 HG0.out (fun _ _ h => h.elim), HBW.out⟩
      clear hrg0 hg0 hs0 HG0 HST hown HOS HF c1 hlt hsz
      generalize w1.heap.size = r at *
      go_loopg [10, 11] (Maps.size D) (fun n s10 s11 wx => Hid (Mr w x vs ms' L r n s10 wx))
      case atStart => exact HM0
      case round =>
        have HM := hrel
        clear HM0 hrel
        obtain ⟨D1, left, G, hrg, hRg, hK⟩ := HM.out.ex
        have HRg := hid hRg
        have HK := hid hK
        have HOS := hid HM.out.os
        have HFR := hid HM.out.fr
        have HRB := hid HM.out.rb
        have HTI := hid (hrg.owns.tidy law)
        obtain ⟨⟨es0, cl0, hmp⟩, m0, s0, e0, q0, hit⟩ := ranges_iter hrg
        have HNR : Hid (∀ cs t z, wr.heap[r]? ≠ some (.cells cs t z)) := fun cs t z e => by rw [hit] at e; cases e
        have HBR := hid hrg.ne
        have HGL : Hid (G.length ≤ L.length) := by have := hRg.size; show _ ≤ _; omega
        clear hRg hK HM hmp hit
        go_wp2_with (first
          | (at_next; refine wpList_next_ranges _ rfl _ rfl 64 law unitElem (fun c : Cl => .agg #[.int .i64 c.v, .string c.k, .int .i64 c.s]) (fun _ : Unit => .agg #[]) (fun key kl hk => by obtain ⟨c, hc, _⟩ := keyC_inv hk; exact ⟨c, hc⟩) (fun v y hv => ⟨(), (unitElem_inv hv).1⟩) x.mb r L.length _ _ _ rfl hrg ?_ ?_)
          | go_in)
        · -- nothing is left
          intro _ hl0
          obtain ⟨hperm, hhas, hsz⟩ := HRg.out.done (ri_nodup HRI.out) hl0
          have HOP : Hid (Op wr x vs ms' (leftL vs (leastL ms') L)) := by
            refine HOS.out.op ⟨D1, ?_, hhas, hsz, fun c hc => HFI.out c (List.mem_filter.1 hc).1⟩ (ri_filter HRI.out _) (fun c hc => ⟨HOK.out c (List.mem_filter.1 hc).1, ?_⟩)
            · show wr.ownsMap _ _ _ _ (leftL vs (leastL ms') L).length _
              have e : (leftL vs (leastL ms') L).length = Maps.size D1 := hsz.symm
              rw [e]
              exact tight hrg.owns
            · have := (List.mem_filter.1 hc).2
              simpa using this
          have HPERM := hid hperm
          clear hperm hhas hsz hl0 hrg HTI HRg
          rcases HK.out.row with ⟨rfl, rfl⟩ | ⟨g, cap, rest, rfl, h1, h2, h3, hrow, h5⟩
          · go_wp2_with fail
            refine (sortK_none _ _ _ _).mono ?_
            rintro e w4 ⟨rfl, hw4⟩
            obtain rfl : wr = w4 := hw4.symm
            clear hw4
            go_wp2_with fail
            go_ret2
            refine ⟨_, rfl, ?_, HOP.out, HFR.out⟩
            have e : goneL vs (leastL ms') L = [] := List.nil_perm.1 HPERM.out
            rw [e]
            exact kw_nil _ _
          · have HROW := hid hrow
            have HNC := hid (HOS.out.ne_cells hrow)
            have HGB := hid h3
            have HC1 := hid h1
            have HC2 := hid h2
            have HC5 := hid h5
            have hgl : G.length ≤ 2199023255552 := by have := HGL.out; omega
            clear hrow h1 h2 h3 h5
            go_wp2_with fail
            refine (sortK_any _ HROW.out hgl).mono ?_
            rintro e w4 ⟨rfl, ys, hyl, hyp, hys, hrow4, hf4⟩
            have hye : ys = goneL vs (leastL ms') L := sorted_is _ hyp HPERM.out HRI.out hys
            have HYE := hid hye
            have HYL := hid hyl
            have HR4 := hid hrow4
            have HF4 := hid hf4
            clear hye hyl hyp hys hrow4 hf4
            go_wp2_with fail
            go_ret2
            refine ⟨.slice (some ⟨g, 0, none⟩) G.length cap, rfl, ?_, ?_, HFR.out.trans2 HF4.out (fun i hi e => by have := HGB.out; omega)⟩
            · rw [← HYE.out, ← HYL.out]
              exact HR4.out.kw (by rw [HYL.out]; exact HC1.out) HC2.out HGB.out (by rw [HYL.out]; exact HC5.out)
            · obtain ⟨n1, n2, n3, n4⟩ := HNC.out
              refine HOP.out.fr HF4.out n1 (fun e => ?_) n2 n3 n4
              obtain ⟨es, cl, hb⟩ := HOP.out.map.isMap
              have h2 : wr.heap[g]? = some (.cells (kv G ++ rest).toArray 64 (0, 0)) := HROW.out
              rw [← e, hb] at h2
              cases h2
        · -- a cell has come
          intro c kl0 yd yp w2 cnt2 hkey hlk hv hat hrg2 hltc hg2 hs2 hen
          obtain ⟨c', ec, hfc, rfl⟩ := keyC_inv hkey
          obtain rfl : c = c' := vC_inj ec
          have HLK := hid hlk
          have HFC := hid hfc
          have hcL := HRg.out.inL c hfc hlk
          obtain ⟨v0, v1, _, _, s1, s2⟩ := HOK.out c hcL
          have HF2 := hid (grown_fr hg2)
          have HLT := hid hltc
          obtain ⟨n1, n2, n3, n4⟩ := HOS.out.ne HNR.out
          have HOS2 := hid (HOS.out.fr HF2.out n1 n2 n3 n4)
          have HK2 := hid (HK.out.fr HF2.out (HK.out.ne HNR.out))
          have HFR2 : Hid (Fr w w2 (fun b => b = x.gm ∨ b = x.mb)) := HFR.out.trans2 HF2.out (fun i hi e => by have := HRB.out; omega)
          have HRG2 := hid hrg2
          clear hkey hlk hv hat hrg2 hltc hg2 hs2 ec hcL n1 n2 n3 n4 HOS HK HFR HNR hrg HF2 hfc
          have HOS3 := hid (HOS2.out.step (alloc_fr w2 (.cells #[.int .i64 c.v, .string c.k, .int .i64 c.s] 64) _))
          have HCL := hid (oclosed_s HOS3.out v0 v1 s1 s2)
          unfold vC at HCL
          have HSH : Hid (shK vs (leastL ms') c = shK vs (leastL ms') c) := rfl
          clear v0 v1 s1 s2
          rcases hsh : shK vs (leastL ms') c with _ | _
          · rw [hsh] at HCL
            have HSTY := hid (HRg.out.stay HFI.out HFC.out hsh)
            go_wp2_with fail
            refine HCL.out.mono ?_
            rintro e w4 ⟨rfl, hf4⟩
            have HF4 : Hid (Fr w2 w4 (fun _ => False)) := (alloc_fr _ _ _).trans hf4
            clear hf4
            go_wp2_with fail
            go_roundg cnt2
            case measure => exact HLT.out
            case rel => exact ⟨⟨D1, _, G, ranges_fr HRG2.out HF4.out (fun h => h) (fun h => h), HSTY.out, HK2.out.fr HF4.out (fun _ _ h => h)⟩, HOS2.out.step HF4.out, HFR2.out.trans2 HF4.out (fun _ _ h => h.elim), HRB.out⟩
          · rw [hsh] at HCL
            have HSTK := hid (HRg.out.strike HTI.out HFI.out HFC.out HLK.out hsh)
            clear HSH hsh
            have HBX : Hid ((w2.alloc (.cells #[.int .i64 c.v, .string c.k, .int .i64 c.s] 64)).heap[w2.heap.size]? = some (.cells #[.int .i64 c.v, .string c.k, .int .i64 c.s] 64 (0, 0))) := heap_last _ _ _ rfl
            go_wp2_with fail
            refine HCL.out.mono ?_
            rintro e w4 ⟨rfl, hf4⟩
            have HF4 : Hid (Fr w2 w4 (fun _ => False)) := (alloc_fr _ _ _).trans hf4
            have HBX4 : Hid (w4.heap[w2.heap.size]? = some (.cells #[.int .i64 c.v, .string c.k, .int .i64 c.s] 64 (0, 0))) := (hf4.block _ (lt_of_block HBX.out) (fun h => h)).trans HBX.out
            have HN1 : Hid (∀ k, u10.ownBlock = some k → ¬ k = w2.heap.size) := fun k hk e => by have := own_lt HK2.out hk; omega
            clear hf4 HBX HCL
            generalize w2.heap.size = N1 at *
            obtain ⟨b0, b1, b2⟩ := cells3 HBX4.out
            have hbl := lt_of_block HBX4.out
            have HOSA := hid ((HOS2.out.step HF4.out).step (alloc_fr w4 (.cells #[.int .i64 c.v, .string c.k, .int .i64 c.s] 64) _))
            have HKA : Hid (Kw w.heap.size (w4.alloc (.cells #[.int .i64 c.v, .string c.k, .int .i64 c.s] 64)) u10 G) := (HK2.out.fr HF4.out (fun _ _ h => h)).fr (alloc_fr _ _ (fun _ => False)) (fun _ _ h => h)
            have HRGA := hid (ranges_fr (ranges_fr HRG2.out HF4.out (fun h => h) (fun h => h)) (alloc_fr w4 (.cells #[.int .i64 c.v, .string c.k, .int .i64 c.s] 64) (fun _ => False)) (fun h => h) (fun h => h))
            have HFRA : Hid (Fr w (w4.alloc (.cells #[.int .i64 c.v, .string c.k, .int .i64 c.s] 64)) (fun b => b = x.gm ∨ b = x.mb)) := (HFR2.out.trans2 HF4.out (fun _ _ h => h.elim)).alloc _
            have HBXA : Hid ((w4.alloc (.cells #[.int .i64 c.v, .string c.k, .int .i64 c.s] 64)).heap[N1]? = some (.cells #[.int .i64 c.v, .string c.k, .int .i64 c.s] 64 (0, 0))) := ((alloc_fr w4 _ (fun _ => False)).block _ (lt_of_block HBX4.out) (fun h => h)).trans HBX4.out
            go_wp2_with (at_builtin; go_must (refine wpl_kw rfl (.tmp 39) (.tmp 41) rfl u10 G rfl w4.heap.size c rfl (by have := HGL.out; omega) HKA.out HFRA.out.size (heap_last _ _ _ rfl) ?_))
            intro v' w5 hK5 hg5
            have HF5 := hid (fr_own hg5)
            have HK5 := hid hK5
            have HFR5 : Hid (Fr w w5 (fun b => b = x.gm ∨ b = x.mb)) := HFRA.out.trans2 HF5.out (fun i hi e => by have := (HKA.out.cells e).1; omega)
            have HOS5 : Hid (Os w5 x vs ms') := by
              have key : ∀ k, u10.ownBlock = some k → x.B ≠ k ∧ x.Bm ≠ k ∧ x.gm ≠ k ∧ x.gv ≠ k := fun k hk => by
                obtain ⟨_, cs, hcs⟩ := HKA.out.cells hk
                exact HOSA.out.ne_cells hcs
              exact HOSA.out.fr HF5.out (fun h => (key _ h).1 rfl) (fun h => (key _ h).2.1 rfl) (fun h => (key _ h).2.2.1 rfl) (fun h => (key _ h).2.2.2 rfl)
            have HRG5 : Hid (w5.ranges Try.prog 64 unitElem x.mb r L.length D1 (fun z => left z && !z.sameKey (kl c)) cnt2) := by
              obtain ⟨⟨es, cl, hmp⟩, m1, s1, e1, q1, hit⟩ := ranges_iter HRGA.out
              refine ranges_fr HRGA.out HF5.out (fun h => ?_) (fun h => ?_)
              · exact HKA.out.ne (k := x.mb) (fun cs t z e => by rw [hmp] at e; cases e) _ h rfl
              · exact HKA.out.ne (k := r) (fun cs t z e => by rw [hit] at e; cases e) _ h rfl
            have HBX5 : Hid (w5.heap[N1]? = some (.cells #[.int .i64 c.v, .string c.k, .int .i64 c.s] 64 (0, 0))) := (HF5.out.block _ (lt_of_block HBXA.out) (fun h => HN1.out _ h rfl)).trans HBXA.out
            obtain ⟨w6, cnt6, hrun, hrg6, hle6, htn6⟩ := (ranges_fr HRG5.out (Fr.refl w5 (fun _ => False)).drew (fun h => h) (fun h => h)).drop law Try.underlying83 (keyC HFC.out) 0
            unfold vC at hrun
            rw [Maps.strike_twice] at hrg6
            have HRG6 := hid hrg6
            have HF6 : Hid (Fr w5 w6 (fun k => k = x.mb)) := (Fr.refl w5 _).drew.trans (grown_fr htn6.grown)
            have HLE6 : Hid (cnt6 < gk) := by have := HLT.out; show _ < _; omega
            have HOS6 : Hid (Os w6 x vs ms') := by
              obtain ⟨⟨es, cl, hmp⟩, _⟩ := ranges_iter HRG5.out
              obtain ⟨n1, n2, n3, n4⟩ := HOS5.out.ne (k := x.mb) (fun cs t z e => by rw [hmp] at e; cases e)
              exact HOS5.out.fr HF6.out n1 n2 n3 n4
            have HK6 : Hid (Kw w.heap.size w6 v' (G ++ [c])) := by
              obtain ⟨⟨es, cl, hmp⟩, _⟩ := ranges_iter HRG5.out
              exact HK5.out.fr HF6.out (HK5.out.ne (k := x.mb) (fun cs t z e => by rw [hmp] at e; cases e))
            have HFR6 : Hid (Fr w w6 (fun b => b = x.gm ∨ b = x.mb)) := HFR5.out.trans (HF6.out.mono (fun _ _ h => Or.inr h))
            obtain ⟨⟨_, o1, _, _, _⟩, obl⟩ := HOS5.out.cells
            clear b0 b1 b2 hbl hK5 hg5 hrg6 hle6 htn6
            obtain ⟨b0, b1, b2⟩ := cells3 HBX5.out
            have hbl := lt_of_block HBX5.out
            go_wp2_with fail
            go_region
            all_goals
              go_wp2_with fail
              go_roundg cnt6
              case measure => exact HLE6.out
              case rel => exact ⟨⟨_, _, _, HRG6.out, HSTK.out, HK6.out⟩, HOS6.out, HFR6.out, HRB.out⟩
end Go.Proofs.Ytbhhpkbiflolfaa.V
