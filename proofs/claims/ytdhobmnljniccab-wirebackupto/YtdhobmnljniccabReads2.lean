/- reads: the walk. -/
import Derived.Test.YtdhobmnljniccabReads
import Derived.Deep.RegionWith
namespace Go.Proofs.Ytdhobmnljniccab
open Go.RowKit
attribute [local go_sem ↓] Go.wp_at_zero Go.wp_at_succ

set_option maxHeartbeats 2000000 in
set_option maxRecDepth 100000 in
theorem reads_any (sv : Value) (xs : List Nat) (lv : Value) (cs : List CallV) (w0 w : World) (hl : Cls w0 lv cs) (hb : Below w0.heap.size w0 w) (hs : Bs w sv xs) (hx : xs.length ≤ 140737488355328) (hb8 : ∀ j, xs.getD j 0 < 256) (he : xs = encL (cs.take 60)) :
    Calls Try.prog 13 #[sv, lv] w fun e w' => e = .returned (.bool true) ∧ Fr w w' (fun _ => False) := by
  obtain ⟨lao, lcap, rfl, hcl, hfine, hcells⟩ := hl
  have HC := hid2 hcells
  have HFI := hid2 hfine
  have HB8 := hid2 hb8
  have HBL := hid2 hb
  have HSv := hid2 hs
  have HXE := hid2 he
  have hw0 := hb.size
  obtain ⟨sao, scap, rfl⟩ := slice_shape hs
  clear hcells hfine hb8 hb hs he
  go_enter Try.func13, Try.ntmps13
  go_wp2_with fail
  refine (read_any _ xs w HSv.out hx).mono ?_
  rintro e w1 ⟨R, v, rfl, hR1, hRn, hf1⟩
  have HS0 : Hid (RS w0 w w.heap.size R v xs 0 (encL ((cs.take 60).drop 0)) w1) := ⟨hR1, Nat.zero_le _, by rw [List.drop_zero, List.drop_zero]; exact HXE.out, hf1, HBL.out.trans (hf1.below HBL.out.size (fun _ h => h.elim)), hRn⟩
  clear hR1 hf1
  go_wp2_with fail
  go_loopw [6, 7] (fun lf i wx => ∃ (k p : Nat), k ≤ cs.length ∧ k ≤ 60 ∧ i = .int .i64 (k : Int) ∧ lf = .int .i64 ((xs.length - p : Nat) : Int) ∧ Hid (RS w0 w w.heap.size R v xs p (encL ((cs.take 60).drop k)) wx)) (fun _ i _ => 60 - (intOf i).toNat)
  case atStart => exact ⟨0, 0, Nat.zero_le _, by omega, rfl, rfl, HS0⟩
  case round =>
    obtain ⟨k, p, hk, hk60, rfl, rfl, HR⟩ := hrel
    have hple := HR.out.le
    by_cases hgo : k < cs.length ∧ k < 60
    · obtain ⟨g1, g2⟩ := hgo
      obtain ⟨b, off, rfl, hcell⟩ := HC.out (by intro e; subst e; simp at g1)
      have HST := hid2 (encL_step cs k g1 g2)
      have HR2 := hid2 HR.out
      rw [HST.out] at HR2
      obtain ⟨c, hc⟩ : ∃ c, c = cs.getD k noCall := ⟨_, rfl⟩
      have hcm : c ∈ cs := by rw [hc]; simp only [List.getD, List.getElem?_eq_getElem g1, Option.getD_some]; exact List.getElem_mem g1
      have hcf := HFI.out c hcm
      have hck := hcell k g1
      rw [← hc] at hck HR2
      have HCK := hid2 (fun W (hW : Below w0.heap.size w0 W) => hck.below hW rfl)
      obtain ⟨d0, _, _, _, _⟩ := HCK.out wr HR.out.bl
      obtain ⟨⟨n0, n1⟩, ⟨i0, i1⟩, _, hss⟩ := hcf
      clear hcell hck hc hcm HST HR
      have t1 : (k : Int) < (cs.length : Int) := by omega
      have t2 : (k : Int) < 60 := by omega
      obtain ⟨kind, cn, ci, s, most⟩ := c
      simp only at n0 n1 i0 i1 hss d0
      obtain ⟨rest, hrest⟩ : ∃ rest, rest = encL ((cs.take 60).drop (k + 1)) := ⟨_, rfl⟩
      have HRE := hid2 hrest
      rw [← hrest] at HR2
      clear hrest
      by_cases k1 : kind = 1
      · subst k1
        have HR3 : Hid (RS w0 w w.heap.size R v xs p (sev 9 cn.toNat ++ rest) wr) := HR2.out
        clear HR2
        have HN := hid2 (read_num w.heap.size R v xs rest p cn.toNat wr.drew (HR3.out.drewN 1).rd hple hx HB8.out (by omega) HR3.out.dr)
        have HST := hid2 (fun (w' : World) (h : RdPost wr.drew w.heap.size R v xs (p + (sev 9 cn.toNat).length) 0 0 w') => (HR3.out.drewN 1).step hw0 h)
        obtain ⟨_, d1, _, _, _⟩ := HCK.out wr.drew (HR3.out.drewN 1).bl
        simp only at d1
        rcases (show 0 < cn ∨ cn ≤ 0 by omega) with hn | hn
        · obtain ⟨m, rfl⟩ := Int.eq_ofNat_of_zero_le (show 0 ≤ cn by omega)
          rw [Int.toNat_natCast] at HN HST
          go_wp2_with fail
          go_region_with (go_at_call 22; refine HN.out.mono ?_; rintro e w2 ⟨rfl, hw2⟩; have HR4 := hid2 (HST.out w2 hw2); obtain ⟨_, d2, _, _, _⟩ := HCK.out w2 HR4.out.bl; simp only at d2; clear hw2)
          all_goals (have hsl := (sev_length 9 m).2)
          all_goals (have HF4 := hid2 (show ¬ ((xs.length - p : Nat) : Int) ≤ ((xs.length - (p + (sev 9 m).length) : Nat) : Int) by have := HR4.out.le; omega))
          all_goals (have HL4 : Hid (leftN xs (p + (sev 9 m).length) 0 = xs.length - (p + (sev 9 m).length)) := rfl)
          all_goals (have hple4 := HR4.out.le)
          all_goals (rw [HRE.out] at HR4)
          all_goals (generalize p + (sev 9 m).length = p4 at *)
          all_goals (have hf4 := HF4.out)
          all_goals go_wp2_with (go_at_call 36; refine (left_any w.heap.size R v xs p4 0 0 _ ?_ hple4 hx).mono ?_; (first | exact HR4.out.rd | exact (HR4.out.drewN _).rd); rintro e w3 ⟨rfl, n3, rfl⟩; rw [HL4.out])
          all_goals exact ⟨⟨k + 1, p4, by omega, by omega, by go_num, rfl, hid2 (HR4.out.drewN _)⟩, by simp [intOf]; omega⟩
        · have e0 : cn.toNat = 0 := by omega
          rw [e0] at HN HST
          clear e0
          go_wp2_with fail
          go_region_with (go_at_call 22; refine HN.out.mono ?_; rintro e w2 ⟨rfl, hw2⟩; have HR4 := hid2 (HST.out w2 hw2); obtain ⟨_, d2, _, _, _⟩ := HCK.out w2 HR4.out.bl; simp only at d2; clear hw2)
          all_goals (have hsl := (sev_length 9 0).2)
          all_goals (have HF4 := hid2 (show ¬ ((xs.length - p : Nat) : Int) ≤ ((xs.length - (p + (sev 9 0).length) : Nat) : Int) by have := HR4.out.le; omega))
          all_goals (have HL4 : Hid (leftN xs (p + (sev 9 0).length) 0 = xs.length - (p + (sev 9 0).length)) := rfl)
          all_goals (have hple4 := HR4.out.le)
          all_goals (rw [HRE.out] at HR4)
          all_goals (generalize p + (sev 9 0).length = p4 at *)
          all_goals (have hf4 := HF4.out)
          all_goals go_wp2_with (go_at_call 36; refine (left_any w.heap.size R v xs p4 0 0 _ ?_ hple4 hx).mono ?_; (first | exact HR4.out.rd | exact (HR4.out.drewN _).rd); rintro e w3 ⟨rfl, n3, rfl⟩; rw [HL4.out])
          all_goals exact ⟨⟨k + 1, p4, by omega, by omega, by go_num, rfl, hid2 (HR4.out.drewN _)⟩, by simp [intOf]; omega⟩
      · have q1 : (kind == 1) = false := by simpa using k1
        by_cases k2 : kind = 2
        · subst k2
          have HR3 : Hid (RS w0 w w.heap.size R v xs p (sev 9 (zig ci) ++ rest) wr) := HR2.out
          clear HR2
          have HN := hid2 (read_int w.heap.size R v xs rest p ci wr.drew (HR3.out.drewN 1).rd hple hx HB8.out i0 i1 HR3.out.dr)
          have HST := hid2 (fun (w' : World) (h : RdPost wr.drew w.heap.size R v xs (p + (sev 9 (zig ci)).length) 0 0 w') => (HR3.out.drewN 1).step hw0 h)
          obtain ⟨_, _, d1, _, _⟩ := HCK.out wr.drew (HR3.out.drewN 1).bl
          simp only at d1
          go_wp2_with fail
          go_region_with (go_at_call 23; refine HN.out.mono ?_; rintro e w2 ⟨rfl, hw2⟩; have HR4 := hid2 (HST.out w2 hw2); obtain ⟨_, _, d2, _, _⟩ := HCK.out w2 HR4.out.bl; simp only at d2; clear hw2)
          all_goals (have hsl := (sev_length 9 (zig ci)).2)
          all_goals (have HF4 := hid2 (show ¬ ((xs.length - p : Nat) : Int) ≤ ((xs.length - (p + (sev 9 (zig ci)).length) : Nat) : Int) by have := HR4.out.le; omega))
          all_goals (have HL4 : Hid (leftN xs (p + (sev 9 (zig ci)).length) 0 = xs.length - (p + (sev 9 (zig ci)).length)) := rfl)
          all_goals (have hple4 := HR4.out.le)
          all_goals (rw [HRE.out] at HR4)
          all_goals (generalize p + (sev 9 (zig ci)).length = p4 at *)
          all_goals (have hf4 := HF4.out)
          all_goals go_wp2_with (go_at_call 36; refine (left_any w.heap.size R v xs p4 0 0 _ ?_ hple4 hx).mono ?_; (first | exact HR4.out.rd | exact (HR4.out.drewN _).rd); rintro e w3 ⟨rfl, n3, rfl⟩; rw [HL4.out])
          all_goals exact ⟨⟨k + 1, p4, by omega, by omega, by go_num, rfl, hid2 (HR4.out.drewN _)⟩, by simp [intOf]; omega⟩
        · have q2 : (kind == 2) = false := by simpa using k2
          by_cases k3 : kind = 3
          · subst k3
            have HR3 : Hid (RS w0 w w.heap.size R v xs p ((sev 9 s.size ++ nums8 s) ++ rest) wr) := HR2.out
            clear HR2
            have HN := hid2 (read_text w.heap.size R v xs rest p s wr.drew (HR3.out.drewN 1).rd hple hx HB8.out hss (by rw [← List.append_assoc]; exact HR3.out.dr))
            have hEl : (sev 9 s.size ++ nums8 s).length = (sev 9 s.size).length + s.size := by rw [List.length_append, nums8_length]
            have HST : Hid (∀ (w' : World), RdPost wr.drew w.heap.size R v xs (p + (sev 9 s.size).length + s.size) 0 0 w' → RS w0 w w.heap.size R v xs (p + (sev 9 s.size).length + s.size) rest w') := fun w' h => by
              have hh := (HR3.out.drewN 1).step (w' := w') hw0
              rw [hEl, ← Nat.add_assoc] at hh
              exact hh h
            clear hEl
            obtain ⟨_, _, _, d1, _⟩ := HCK.out wr.drew (HR3.out.drewN 1).bl
            simp only at d1
            go_wp2_with fail
            go_region_with (go_at_call 35; refine HN.out.mono ?_; rintro e w2 ⟨rfl, hw2⟩; have HR4 := hid2 (HST.out w2 hw2); obtain ⟨_, _, _, d2, _⟩ := HCK.out w2 HR4.out.bl; simp only at d2; clear hw2)
            all_goals (have hsl := (sev_length 9 s.size).2)
            all_goals (have HF4 := hid2 (show ¬ ((xs.length - p : Nat) : Int) ≤ ((xs.length - (p + (sev 9 s.size).length + s.size) : Nat) : Int) by have := HR4.out.le; omega))
            all_goals (have HL4 : Hid (leftN xs (p + (sev 9 s.size).length + s.size) 0 = xs.length - (p + (sev 9 s.size).length + s.size)) := rfl)
            all_goals (have hple4 := HR4.out.le)
            all_goals (rw [HRE.out] at HR4)
            all_goals (generalize p + (sev 9 s.size).length + s.size = p4 at *)
            all_goals (have hf4 := HF4.out)
            all_goals go_wp2_with (go_at_call 36; refine (left_any w.heap.size R v xs p4 0 0 _ ?_ hple4 hx).mono ?_; (first | exact HR4.out.rd | exact (HR4.out.drewN _).rd); rintro e w3 ⟨rfl, n3, rfl⟩; rw [HL4.out])
            all_goals exact ⟨⟨k + 1, p4, by omega, by omega, by go_num, rfl, hid2 (HR4.out.drewN _)⟩, by simp [intOf]; omega⟩
          · have q3 : (kind == 3) = false := by simpa using k3
            have e0 : encC ⟨kind, cn, ci, s, most⟩ = [] := by simp [encC, k1, k2, k3]
            rw [e0, List.nil_append, HRE.out] at HR2
            clear e0
            go_wp2
            exact ⟨⟨k + 1, p, by omega, by omega, by go_num, rfl, HR2⟩, by simp [intOf]; omega⟩
    · have HR2 := hid2 HR.out
      rw [encL_end cs k hgo] at HR2
      have hlen := congrArg List.length HR2.out.dr
      rw [List.length_drop, List.length_nil] at hlen
      obtain rfl : p = xs.length := by omega
      have hE : endE xs xs.length 0 = 0 := by simp [endE]
      have hO : endO xs xs.length 0 0 = 0 := by simp [endO]
      have HE := hid2 hE
      have HO := hid2 hO
      have HL : Hid (leftN xs xs.length 0 = 0) := by show leftN xs xs.length 0 = 0; simp [leftN]
      clear hE hO hlen HR
      by_cases g1 : k < cs.length
      · have t1 : (k : Int) < (cs.length : Int) := by omega
        have t2 : ¬ (k : Int) < 60 := by omega
        go_wp2_with fail
        refine (end_any w.heap.size R v xs xs.length 0 0 _ HR2.out.rd (Nat.le_refl _) hx).mono ?_
        rintro e w4 ⟨rfl, hw4⟩
        rw [HE.out, HO.out] at hw4
        have HR5 := hid2 hw4.1
        have HF5 : Hid (Fr w w4 (fun _ => False)) := HR2.out.fr.trans2 hw4.2 (fun i hi e => by omega)
        clear hw4
        go_wp2_with (first
          | (go_at_call 20; refine (err_ok w.heap.size R v xs xs.length 0 _ HR5.out).mono ?_; rintro e w5 ⟨rfl, hw5⟩; have hw5 := hw5.symm; subst hw5)
          | (go_at_call 36; refine (left_any w.heap.size R v xs xs.length 0 0 _ HR5.out (Nat.le_refl _) hx).mono ?_; rintro e w3 ⟨rfl, n3, rfl⟩; rw [HL.out]))
        go_ret
        exact ⟨rfl, HF5.out.drewN _⟩
      · have t1 : ¬ (k : Int) < (cs.length : Int) := by omega
        go_wp2_with fail
        refine (end_any w.heap.size R v xs xs.length 0 0 _ HR2.out.rd (Nat.le_refl _) hx).mono ?_
        rintro e w4 ⟨rfl, hw4⟩
        rw [HE.out, HO.out] at hw4
        have HR5 := hid2 hw4.1
        have HF5 : Hid (Fr w w4 (fun _ => False)) := HR2.out.fr.trans2 hw4.2 (fun i hi e => by omega)
        clear hw4
        go_wp2_with (first
          | (go_at_call 20; refine (err_ok w.heap.size R v xs xs.length 0 _ HR5.out).mono ?_; rintro e w5 ⟨rfl, hw5⟩; have hw5 := hw5.symm; subst hw5)
          | (go_at_call 36; refine (left_any w.heap.size R v xs xs.length 0 0 _ HR5.out (Nat.le_refl _) hx).mono ?_; rintro e w3 ⟨rfl, n3, rfl⟩; rw [HL.out]))
        go_ret
        exact ⟨rfl, HF5.out.drewN _⟩
end Go.Proofs.Ytdhobmnljniccab
