/- MarkHolds: the walk. -/
import Derived.Test.YtfmhdpenodmblaaQWith
namespace Go.Proofs.Ytfmhdpenodmblaa
open Go.RowKit

/-- The marks, and the law's own numbers beside them. -/
structure HI (w : World) (B g h : Nat) (ms : List Int) (n : Nat) (W : World) : Prop where
  km : Km W B g ms
  row : RowV W h (iv ms)
  len : ms.length = n
  gh : g ≠ h
  bn : w.heap.size ≤ B ∧ w.heap.size ≤ g ∧ w.heap.size ≤ h
  fr : Fr w W (fun _ => False)
theorem HI.step {w : World} {B g h : Nat} {ms : List Int} {n : Nat} {W W' : World} (hi : HI w B g h ms n W) (hf : Fr W W' (fun _ => False)) : HI w B g h ms n W' :=
  ⟨hi.km.fr hf (fun h => h) (fun h => h), hi.row.fr hf (fun h => h), hi.len, hi.gh, hi.bn, hi.fr.trans hf⟩
theorem HI.drew {w : World} {B g h : Nat} {ms : List Int} {n : Nat} {W : World} (hi : HI w B g h ms n W) : HI w B g h ms n W.drew := hi.step (Fr.refl W _).drew

set_option maxHeartbeats 4000000 in
set_option maxRecDepth 100000 in
theorem holds_walk {w : World} {v : Value} {rs : List Rq} (src : Int) (hrs : Rs w v rs) : Calls Try.prog 6 #[.int .i64 src, v] w fun e w' => e = .returned (.bool true) ∧ Fr w w' (fun _ => False) := by
  have HRS := hid hrs
  obtain ⟨ao, cap, rfl, hrl, _⟩ := id hrs
  clear hrs
  have HW := hid (within_any src 8 (by decide) (by decide) w)
  obtain ⟨n, hn⟩ : ∃ n : Nat, (n : Int) = 1 + src % 8 := ⟨(1 + src % 8).toNat, by omega⟩
  have hn1 : 1 ≤ n := by omega
  have hn8 : n ≤ 8 := by omega
  have e1 : src % 8 = (n : Int) - 1 := by omega
  rw [e1] at HW
  clear hn e1
  have HMK := hid (fun W : World => run_make_row' (P := Try.prog) 43 2 (.int .i64 0) 8 Try.underlying43 Try.info_i64 rfl .i64 .i64 n (by omega) (by omega) W)
  have HNEW := hid (fun W : World => new_ok hn1 hn8 W)
  go_enter Try.func6, Try.ntmps6
  go_wp2_with fail
  refine HW.out.mono ?_
  rintro e w1 ⟨rfl, hw1⟩
  obtain rfl : w = w1 := hw1.symm
  clear hw1
  have e1 : (1 : Int) + ((n : Int) - 1) = (n : Int) := by omega
  have e2 : IntKind.i64.wrap ((1 : Int) + ((n : Int) - 1)) = (n : Int) := by rw [e1]; exact wrap_fit (by unfold fits; omega)
  go_wp2_with fail
  refine (HNEW.out _).mono ?_
  rintro e w2 ⟨B, g, rfl, hK, hB, hg, hf⟩
  have HK := hid hK
  have HF := hid hf
  have HBG := hid (And.intro hB hg)
  have hmk := HMK.out w2
  clear hK hf hB hg HNEW HMK HW
  go_wp2_with fail
  have HR : Hid (RowV (w2.alloc (.cells (madeCells #[Value.int .i64 0] n) 2)) w2.heap.size (iv (fillM n 0))) := by
    show RowV _ _ _
    unfold RowV
    rw [fillM_zero, heap_last _ _ _ rfl]
    congr 2
    apply Array.ext'
    rw [made_row]
    simp [iv]
  have HK2 := hid (HK.out.fr (alloc_fr w2 (.cells (madeCells #[Value.int .i64 0] n) 2) (fun _ => False)) (fun h => h) (fun h => h))
  have HF2 : Hid (Fr w (w2.alloc (.cells (madeCells #[Value.int .i64 0] n) 2)) (fun _ => False)) := HF.out.alloc _
  have HGH : Hid (B < w2.heap.size ∧ g < w2.heap.size ∧ w.heap.size ≤ w2.heap.size) := ⟨HK.out.lt.1, HK.out.lt.2, HF.out.size⟩
  clear HK HF hmk
  generalize (w2.alloc (.cells (madeCells #[Value.int .i64 0] n) 2)) = w3 at *
  generalize w2.heap.size = h at *
  go_loopg [8] n (fun k s8 wx => ∃ i : Nat, s8 = .int .i64 (i : Int) ∧ Hid (i + k = n) ∧ Hid (RowV wx h (iv (fillM n i))) ∧ Hid (Km wx B g (List.replicate n noM)) ∧ Hid (Fr w wx (fun _ => False)))
  case atStart => exact ⟨0, rfl, by show _ = _; omega, HR, HK2, HF2⟩
  case round =>
    obtain ⟨i, rfl, HG, HR3, HK3, HF3⟩ := hrel
    clear HR HK2 HF2
    cases gk with
    | succ k =>
      have hi : i < n := by have := HG.out; omega
      have u1 : (i : Int) < (n : Int) := by omega
      have hlen := fillM_length (n := n) (i := i) (by omega)
      have hcr := HR3.out.cell i
      rw [iv_get _ _ (by omega)] at hcr
      have hfz := HR3.out.free i
      have hlt2 := HR3.out.lt
      have HSET := hid (HR3.out.set i (.int .i64 noM))
      have e1 : (iv (fillM n i)).set i (.int .i64 noM) = iv (fillM n (i + 1)) := by
        rw [← fillM_set hi]
        unfold iv
        rw [List.map_set]
      rw [e1] at HSET
      clear e1 hlen
      generalize (fillM n i).getD i 0 = y at *
      have e2 : noM = -4611686018427387904 := rfl
      rw [e2] at HSET
      clear e2
      have HI := hid hi
      clear hi
      go_wp2_with fail
      go_roundg k
      case measure => omega
      case rel =>
        refine ⟨i + 1, by go_num, by have := HG.out; show _ = _; omega, HSET, ?_, Fr.setCell HF3.out (fun h => by have := HGH.out; simp at h; omega) _⟩
        refine HK3.out.fr (Fr.setCell (S := fun b => b = h) (p := ⟨h, i, none⟩) (Fr.refl wr _) (fun _ => rfl) _) ?_ ?_
        · have := HGH.out; omega
        · have := HGH.out; omega
    | zero =>
      have e : i = n := by have := HG.out; omega
      have u1 : ¬ (i : Int) < (n : Int) := by omega
      have HS : Hid (HI w B g h (List.replicate n noM) n wr) := by
        have := HR3.out
        rw [e, fillM_all] at this
        exact ⟨HK3.out, this, by simp, by have := HGH.out; omega, ⟨HBG.out.1, HBG.out.2, HGH.out.2.2⟩, HF3.out⟩
      clear HR3 HK3 HF3 HG e
      go_wp2_with fail
      generalize wr = W0 at *
      go_loopg [9, 10, 11, 12, 13, 14, 15, 16] (min rs.length 200) (fun k s9 s10 s11 s12 s13 s14 s15 s16 wx => ∃ i : Nat, ∃ ms : List Int, s9 = .int .i64 (i : Int) ∧ Hid (i + k = min rs.length 200) ∧ Hid (HI w B g h ms n wx))
      case atStart => exact ⟨0, _, rfl, by show _ = _; omega, HS⟩
      case round =>
        obtain ⟨i, ms, rfl, HG, HS1⟩ := hrel
        clear HS
        cases gk with
        | zero =>
          have HO1 := hid (fun (W : World) (hW : HI w B g h ms n W) => of_any hW.km (-1))
          have HO2 := hid (fun (W : World) (hW : HI w B g h ms n W) => of_any hW.km (n : Int))
          have e1 : ofM ms (-1) = -4611686018427387904 := by unfold ofM hasB; rw [if_neg (by simp)]; rfl
          have e2 : ofM ms (n : Int) = -4611686018427387904 := by unfold ofM hasB; rw [if_neg (by have := HS1.out.len; simp; omega)]; rfl
          rw [e1] at HO1
          rw [e2] at HO2
          clear e1 e2
          have hc : ¬ (i : Int) < (rs.length : Int) ∨ ((i : Int) < (rs.length : Int) ∧ ¬ (i : Int) < 200) := by have := HG.out; omega
          rcases hc with t1 | ⟨t1, t2⟩
          all_goals
            go_wp2_with fail
            refine (HO1.out _ HS1.out).mono ?_
            rintro e w4 ⟨rfl, hf4⟩
            have HS4 := hid (HS1.out.step hf4)
            clear hf4
            go_wp2_with fail
            refine (HO2.out _ HS4.out).mono ?_
            rintro e w5 ⟨rfl, hf5⟩
            have HS5 := hid (HS4.out.step hf5)
            clear hf5
            go_wp2_with fail
            refine (head_any _).mono ?_
            rintro e w6 ⟨rfl, hf6⟩
            have HS6 := hid (HS5.out.step hf6)
            clear hf6
            go_wp2_with fail
            go_ret
            exact ⟨rfl, HS6.out.fr⟩
        | succ k =>
          have hi : i < rs.length := by have := HG.out; omega
          have t1 : (i : Int) < (rs.length : Int) := by omega
          have t2 : (i : Int) < 200 := by have := HG.out; omega
          obtain ⟨b, off, rfl, c0, c1⟩ := (HRS.out.fr HS1.out.fr).at hi
          have hbl : b < wr.heap.size := World.block_lt_of_cell? wr _ c0
          generalize (rs.getD i rq0).s = sx at *
          generalize (rs.getD i rq0).t = tx at *
          have HWI := hid (within_any sx n (by omega) (by omega) wr)
          obtain ⟨sn, hsn⟩ : ∃ sn : Nat, (sn : Int) = sx % n := ⟨(sx % n).toNat, by have := Int.emod_nonneg sx (show (n : Int) ≠ 0 by omega); omega⟩
          have hsl : sn < n := by have := Int.emod_lt_of_pos sx (show 0 < (n : Int) by omega); omega
          have hsl2 : (sn : Int) < (n : Int) := by omega
          rw [← hsn] at HWI
          clear hsn
          obtain ⟨tt, htt⟩ : ∃ tt, tt = tx.tmod 1152921504606846976 := ⟨_, rfl⟩
          have htb : -1152921504606846976 ≤ tt ∧ tt ≤ 1152921504606846976 := by
            have := Int.lt_tmod_of_pos tx (show 0 < (1152921504606846976 : Int) by decide)
            have := Int.tmod_lt_of_pos tx (show 0 < (1152921504606846976 : Int) by decide)
            omega
          have HLE := hid (fun (W : World) (hW : Km W B g ms) => least_any hW)
          have HRI := hid (fun (W : World) (hW : Km W B g ms) => rise_any hW (sn : Int) tt)
          have hlen := HS1.out.len
          have e1 : riseR ms (sn : Int) tt = (decide (leastL ms < leastL (riseL ms sn tt)), 0) := by
            unfold riseR hasB isT
            rw [if_pos (decide_eq_true ⟨by omega, by omega⟩), if_pos (decide_eq_true htb), Int.toNat_natCast]
          have e2 : riseS ms (sn : Int) tt = riseL ms sn tt := by
            unfold riseS hasB isT
            rw [decide_eq_true (p := 0 ≤ (sn : Int) ∧ (sn : Int) < (ms.length : Int)) ⟨by omega, by omega⟩, decide_eq_true (p := -1152921504606846976 ≤ tt ∧ tt ≤ 1152921504606846976) htb, Int.toNat_natCast]
            rfl
          rw [e1, e2] at HRI
          clear e1 e2
          have HLEN := hid hlen
          clear hlen
          have HTB := hid htb
          clear htb
          go_wp2_with fail
          refine HWI.out.mono ?_
          rintro e w4 ⟨rfl, hw4⟩
          obtain rfl : wr = w4 := hw4.symm
          clear hw4 HWI
          go_wp2_with fail
          rw [← htt]
          clear htt c0 c1 hbl
          refine (HLE.out _ HS1.out.km).mono ?_
          rintro e w5 ⟨rfl, hf5⟩
          have HS5 := hid (HS1.out.step hf5)
          clear hf5 HS1
          go_wp2_with fail
          refine (HRI.out _ HS5.out.km).mono ?_
          rintro e w6 ⟨rfl, hk6, hf6⟩
          have HK6 := hid hk6
          have HR6 := hid (HS5.out.row.fr hf6 HS5.out.gh.symm)
          have HF6 := hid (HS5.out.fr.trans2 hf6 (fun i hi h => by have := HS5.out.bn; omega))
          have HBN := hid HS5.out.bn
          have HNE := hid HS5.out.gh
          clear hk6 hf6 HS5 HRI HLE
          have hcr := HR6.out.cell sn
          rw [iv_get _ _ (by have := HLEN.out; omega)] at hcr
          have hfz := HR6.out.free sn
          have hlt := HR6.out.lt
          have HSET := hid (HR6.out.set sn (.int .i64 (max (ms.getD sn 0) tt)))
          have e1 : (iv ms).set sn (.int .i64 (max (ms.getD sn 0) tt)) = iv (riseL ms sn tt) := by
            unfold iv riseL
            rw [List.map_set]
          rw [e1] at HSET
          clear e1
          have HK7 : Hid (Km (w6.setCell ⟨h, sn, none⟩ (.int .i64 (max (ms.getD sn 0) tt))) B g (riseL ms sn tt)) := by
            refine HK6.out.fr (Fr.setCell (S := fun b => b = h) (p := ⟨h, sn, none⟩) (Fr.refl w6 _) (fun _ => rfl) _) ?_ HNE.out
            intro e
            have h1 := HK6.out.cell
            have h2 : w6.heap[h]? = some (.cells (iv ms).toArray 2 (0, 0)) := HR6.out
            rw [e, h2] at h1
            simp at h1
          have HF7 : Hid (Fr w (w6.setCell ⟨h, sn, none⟩ (.int .i64 (max (ms.getD sn 0) tt))) (fun _ => False)) := Fr.setCell HF6.out (fun h => by have := HBN.out; simp at h; omega) _
          have HS7 : Hid (HI w B g h (riseL ms sn tt) n (w6.setCell ⟨h, sn, none⟩ (.int .i64 (max (ms.getD sn 0) tt)))) := ⟨HK7.out, HSET.out, by rw [riseL_length]; exact HLEN.out, HNE.out, HBN.out, HF7.out⟩
          clear HK7 HSET HF7 HK6 HR6 HF6 HBN HNE HTB
          obtain ⟨L0, hL0⟩ : ∃ L0, L0 = leastL ms := ⟨_, rfl⟩
          rw [← hL0]
          clear hL0
          generalize riseL ms sn tt = ms' at *
          generalize ms.getD sn 0 = x at *
          have hx : ∃ y, y = max x tt := ⟨_, rfl⟩
          obtain ⟨W7, hW7⟩ : ∃ W7, W7 = w6.setCell ⟨h, sn, none⟩ (.int .i64 (max x tt)) := ⟨_, rfl⟩
          rw [← hW7] at HS7
          have HW7 := hid hW7
          clear hx hW7
          have hcase : (x < tt ∧ max x tt = tt) ∨ (¬ x < tt ∧ max x tt = x) := by omega
          rcases hcase with ⟨hxt, hmx⟩ | ⟨hxt, hmx⟩
          all_goals
            rw [hmx] at HW7
            clear hmx
            go_upto_region 18 with (fail)
            rw [← HW7.out]
            clear HW7 hcr hfz hlt
            have h00 : (0 : Nat) < ms'.length := by have := HS7.out.len; omega
            have c0 : W7.cell? ⟨h, 0, none⟩ = some (.int .i64 (headM ms')) := by
              rw [HS7.out.row.cell, iv_get _ _ h00]
              unfold headM
              cases ms' with
              | nil => simp at h00
              | cons y ys => rfl
            have hlt := HS7.out.row.lt
            have HH0 := hid h00
            clear h00
            go_wp2_with fail
            clear c0 hlt
            go_loopg [15, 16] n (fun q s15 s16 wx => ∃ j : Nat, s16 = .int .i64 (j : Int) ∧ Hid (j + q = n) ∧ s15 = .int .i64 ((ms'.take j).foldl min (headM ms')) ∧ Hid (HI w B g h ms' n wx))
            case atStart => exact ⟨0, rfl, by show _ = _; omega, rfl, HS7⟩
            case round =>
              obtain ⟨j, rfl, HJ, rfl, HS8⟩ := hrel
              clear HS7
              cases gk with
              | zero =>
                have e : j = ms'.length := by have := HJ.out; have := HS8.out.len; omega
                have u1 : ¬ (j : Int) < (n : Int) := by have := HJ.out; omega
                have e2 : (ms'.take j).foldl min (headM ms') = leastL ms' := by rw [e, List.take_length]; rfl
                rw [e2]
                clear e e2
                have HLE := hid (fun (W : World) (hW : Km W B g ms') => least_any hW)
                generalize leastL ms' = L1 at *
                go_wp2_with fail
                refine (HLE.out _ HS8.out.km).mono ?_
                rintro e w9 ⟨rfl, hf9⟩
                have HS9 := hid (HS8.out.step hf9)
                clear hf9 HS8
                go_wp2_with fail
                go_roundg k
                case measure => omega
                case rel => exact ⟨i + 1, ms', by go_num, by have := HG.out; show _ = _; omega, HS9⟩
              | succ q =>
                have hj : j < n := by have := HJ.out; omega
                have u1 : (j : Int) < (n : Int) := by omega
                have hjl : j < ms'.length := by have := HS8.out.len; omega
                have c1 := HS8.out.row.cell j
                rw [iv_get _ _ hjl] at c1
                have hlt := HS8.out.row.lt
                have HT := hid (take_min hjl (headM ms'))
                have HOF := hid (fun (W : World) (hW : HI w B g h ms' n W) => of_any hW.km (j : Int))
                have e1 : ofM ms' (j : Int) = ms'.getD j 0 := by unfold ofM hasB; rw [if_pos (decide_eq_true ⟨by omega, by omega⟩), Int.toNat_natCast]
                rw [e1] at HOF
                have HCL : Hid (∀ W, HI w B g h ms' n W → W.cell? ⟨h, j, none⟩ = some (.int .i64 (ms'.getD j 0)) ∧ h < W.heap.size) := fun W hW => ⟨by rw [hW.row.cell, iv_get _ _ hjl], hW.row.lt⟩
                clear e1 hjl hj
                generalize ms'.getD j 0 = bb at *
                generalize (ms'.take j).foldl min (headM ms') = aa at *
                have hcase : (aa ≤ bb ∧ min aa bb = aa) ∨ (¬ aa ≤ bb ∧ min aa bb = bb) := by omega
                rcases hcase with ⟨hab, hmn⟩ | ⟨hab, hmn⟩
                all_goals
                  rw [hmn] at HT
                  clear hmn
                  go_upto_region 23 with (fail)
                  have HS := HS8
                  clear HS8
                  go_region_held3 (fun W' => Hid (HI w B g h ms' n W') ∧ W'.cell? ⟨h, j, none⟩ = some (.int .i64 bb) ∧ h < W'.heap.size)
                    ((refine (fun hh => ⟨hh, HCL.out _ hh⟩ : HI w B g h ms' n _ → _) ?_; first | exact HS.out | exact HS.out.drew | exact HS.out.drew.drew))
                    ((go_at_call 17; refine (HOF.out _ (by first | exact HS.out | exact HS.out.drew)).mono ?_; rintro e w9 ⟨rfl, hf9⟩; have HS9 := hid ((by first | exact HS.out | exact HS.out.drew : HI w B g h ms' n _).step hf9); clear hf9 HS; have HS := HS9; clear HS9))
                  all_goals
                    go_wp2_with fail
                    go_roundg q
                    case measure => omega
                    case rel => exact ⟨j + 1, by go_num, by have := HJ.out; show _ = _; omega, by rw [HT.out], by first | exact HS | exact HS.out.drew⟩
end Go.Proofs.Ytfmhdpenodmblaa
