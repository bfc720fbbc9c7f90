/- FlowOrder: the walk. (Written by wip/gen/genxorder.py.) -/
import Derived.Test.YtlgbciibhmcokaaXOrdW
import Derived.Test.YtlgbciibhmcokaaXKnown
import Derived.BigRegion
import Derived.Deep.RegionHeld3
namespace Go.Proofs.Ytlgbciibhmcokaa
open Go.RowKit

theorem put_at {s : Ps} {i : Int} {x : It} (he : putE s i x = 0) : ∃ n : Nat, i = (n : Int) ∧ n < s.q.length := by
  unfold putE at he
  split at he
  · omega
  · rename_i hi
    have hi2 : 0 ≤ i ∧ i < (s.q.length : Int) := Classical.byContradiction hi
    exact ⟨i.toNat, by omega, by omega⟩
theorem Oi.take1 {s : Ps} {put : List (List It)} {took : List (List Ms)} {K : Int} {mp mt j : Nat} (h : Oi s put took K mp (mt + (if 0 < j then 1 else 0))) (hm : ∀ k, j ≤ k → (took.getD k []).length ≤ mt) (hj : j < s.b.length) {m : Ms} {L : List Ms} (hq : s.b.getD j [] = m :: L) : Oi (takS s (j : Int)) put (took.set j (took.getD j [] ++ [m])) K mp (mt + (if 0 < j + 1 then 1 else 0)) ∧ ∀ k, j + 1 ≤ k → ((took.set j (took.getD j [] ++ [m])).getD k []).length ≤ mt := by
  have h1 := h.take hj hq
  have hl : j < took.length := by rw [h.o.lt]; exact hj
  refine ⟨⟨h1.o, h1.i, h1.e, by have := h1.ph; omega, h1.lp, fun k => ?_⟩, fun k hk => ?_⟩
  · rw [getD_set_if hl]
    split
    · have := hm j (Nat.le_refl _)
      rw [List.length_append, List.length_singleton, if_pos (Nat.succ_pos j)]
      omega
    · have := h.lt k
      rw [if_pos (Nat.succ_pos j)]
      split at this <;> omega
  · rw [getD_set_if hl, if_neg (by omega)]
    exact hm k (by omega)
set_option maxHeartbeats 32000000 in
set_option maxRecDepth 100000 in
theorem order_walk {w : World} {v3 : Value} {rs : List Sp} (n0 n1 n2 : Int) (hs : Sps w v3 rs) : Calls Try.prog 5 #[.int .i64 n0, .int .i64 n1, .int .i64 n2, v3] w fun e w' => e = .returned (.bool true) ∧ Fr w w' (fun _ => False) := by
  have HS := hid hs
  obtain ⟨ao, cap, rfl, hrl, _⟩ := id hs
  clear hs
  by_cases hlong : 5000 < rs.length
  · have u1 : (5000 : Int) < (rs.length : Int) := by omega
    clear hlong
    go_enter Try.func5, Try.ntmps5
    go_wp2_with fail
    refine (known_any _).mono ?_
    rintro e w1 ⟨rfl, hf⟩
    have HF := hid hf
    clear hf
    go_wp2_with fail
    go_ret
    exact ⟨rfl, HF.out⟩
  · have u1 : ¬ (5000 : Int) < (rs.length : Int) := by omega
    have hrs5 : rs.length ≤ 5000 := by omega
    clear hlong
    have HS0 := hid (fun W => small_any n0 8 W (by omega) (by omega))
    have HS1 := hid (fun W => small_any n1 8 W (by omega) (by omega))
    have HS2 := hid (fun W => small_any n2 64 W (by omega) (by omega))
    obtain ⟨a1, a2⟩ := smF_bd n0 (m := 8) (by omega)
    obtain ⟨b1, b2⟩ := smF_bd n1 (m := 8) (by omega)
    obtain ⟨c1, c2⟩ := smF_bd n2 (m := 64) (by omega)
    obtain ⟨ns, hns⟩ : ∃ k : Nat, smF n0 8 = (k : Int) := ⟨(smF n0 8).toNat, by omega⟩
    obtain ⟨no, hno⟩ : ∃ k : Nat, smF n1 8 = (k : Int) := ⟨(smF n1 8).toNat, by omega⟩
    obtain ⟨box, hbox⟩ : ∃ k : Nat, smF n2 64 = (k : Int) := ⟨(smF n2 64).toNat, by omega⟩
    rw [hns] at HS0 a1 a2
    rw [hno] at HS1 b1 b2
    rw [hbox] at HS2 c1 c2
    have HN := hid (fun (W : World) (hW : Fr w W (fun _ => False)) => fnew_i (w0 := w) (ns := ns) (no := no) (box := box) W (by omega) (by omega) (by omega) hW)
    have hns8 : ns ≤ 8 := by omega
    have hno8 : no ≤ 8 := by omega
    have m1 := fun W => run_make_one Try.underlying42 Try.info_si rfl (by decide) W ns hns8
    have m2 := fun W => run_make_one Try.underlying43 (show (Try.prog.info? 50).map (fun i => (i.zero, i.size, i.bytes)) = some (some (.slice none 0 0), 1, 24) from by kernel_rfl) rfl (by decide) W no hno8
    clear hns hno hbox a1 a2 b1 b2 c1 c2
    go_enter Try.func5, Try.ntmps5
    go_wp2_with fail
    refine (known_any _).mono ?_
    rintro e w1 ⟨rfl, hf⟩
    have HF := hid hf
    clear hf
    go_wp2_with fail
    refine (HS0.out _).mono ?_
    rintro e w9 ⟨rfl, h9⟩
    obtain rfl : w1 = w9 := h9.symm
    clear h9
    go_wp2_with fail
    refine (HS1.out _).mono ?_
    rintro e w9 ⟨rfl, h9⟩
    obtain rfl : w1 = w9 := h9.symm
    clear h9
    go_wp2_with fail
    refine (HS2.out _).mono ?_
    rintro e w9 ⟨rfl, h9⟩
    obtain rfl : w1 = w9 := h9.symm
    clear h9
    go_wp2_with fail
    refine (HN.out _ HF.out).mono ?_
    rintro e w2 ⟨B, rfl, O, hO, _, _⟩
    have HO : Hid (Oo w ((w2.alloc (.cells (Array.replicate ns (Value.slice none 0 0)) 45)).alloc (.cells (Array.replicate no (Value.slice none 0 0)) 50)) B box (newP ns no) (List.replicate ns []) (List.replicate no []) w2.heap.size (w2.heap.size + 1) (List.replicate ns nil3) (List.replicate no nil3)) := by
      have hz := hO.fr.size
      refine ⟨⟨O, (hO.still (alloc_fr _ _ _)).still (alloc_fr _ _ _), fun h => absurd (hO.lt h) (Nat.lt_irrefl _), fun h => absurd (hO.lt h) (by omega), fun i k hi hk => ?_, fun i k hi hk => ?_⟩, ss_new elI _ _ 4 _ (keep_block (heap_last w2 _ _ rfl) (alloc_fr _ _ (fun _ => False)) (fun h => h)), ss_new elM _ _ 5 _ (heap_last _ _ _ (by simp)), hz, by omega⟩
      · rw [rep_getD] at hk; simp [nil3, Value.ownBlock] at hk
      · rw [rep_getD] at hk; simp [nil3, Value.ownBlock] at hk
    have HI : Hid (Oi (newP ns no) (List.replicate ns []) (List.replicate no []) 0 0 0) := Oi.new ns no
    have HLN : Hid ((newP ns no).q.length = ns ∧ (newP ns no).b.length = no) := by show _ ∧ _; simp [newP]
    clear hO HN HF HS0 HS1 HS2
    go_wp2_with fail
    clear m1 m2
    generalize ((w2.alloc (.cells (Array.replicate ns (Value.slice none 0 0)) 45)).alloc (.cells (Array.replicate no (Value.slice none 0 0)) 50)) = W2 at *
    generalize hQ2 : w2.heap.size + 1 = Q2 at *
    generalize w2.heap.size = Q1 at *
    clear hQ2
    have HR5 := hid hrs5
    clear hrs5 u1
    go_loopg [13] rs.length (fun q s13 wx => ∃ (i : Nat) (s : Ps) (put : List (List It)) (took : List (List Ms)) (p1 p2 : List Value), s13 = .int .i64 (i : Int) ∧ Hid (i + q = rs.length) ∧ Hid (Oi s put took (17 * (i : Int)) i i) ∧ Hid (s.q.length = ns ∧ s.b.length = no) ∧ Hid (Oo w wx B box s put took Q1 Q2 p1 p2))
    case atStart => exact ⟨0, newP ns no, _, _, _, _, rfl, by show _ = _; omega, by simpa using HI, HLN, HO⟩
    case round =>
      obtain ⟨i, s, put, took, p1, p2, rfl, HG, HI1, HL, H1⟩ := hrel
      clear HO HI HLN
      cases gk with
      | zero =>
        have t1 : ¬ (i : Int) < (rs.length : Int) := by have := HG.out; omega
        have HI2 := hid (HI1.out.more (K' := 17 * (rs.length : Int)) (mp' := 5000) (mt' := 5000) (by have := HG.out; omega) (by have := HG.out; omega) (by have := HG.out; omega))
        have HRL : Hid (rs.length ≤ 5000) := HR5
        have hLn : (0 : Int) ≤ (rs.length : Int) := by omega
        clear HI1 HS HR5
        go_wp2_with fail
        generalize wr = W3 at *
        generalize rs.length = n0 at *
        clear t1 HG
        go_loopg [18] (17 * n0 + 1) (fun q s18 wx => ∃ (i : Nat) (s : Ps) (put : List (List It)) (took : List (List Ms)) (p1 p2 : List Value), s18 = .int .i64 (i : Int) ∧ Hid (i + q = 17 * n0 + 1) ∧ Hid (Oi s put took (17 * (n0 : Int) - i) 5000 (5000 + i)) ∧ Hid (s.q.length = ns ∧ s.b.length = no) ∧ Hid (Oo w wx B box s put took Q1 Q2 p1 p2))
        case atStart => exact ⟨0, s, put, took, p1, p2, rfl, by show _ = _; omega, by simpa using HI2, HL, H1⟩
        case round =>
          clear HI2 HL H1
          clear s put took p1 p2
          obtain ⟨i2, s, put, took, p1, p2, rfl, HG, HI, HL, H1⟩ := hrel
          have HEM := hid H1.out.empty
          by_cases hem : empB s = true
          · rw [hem] at HEM
            have HFI := hid (fun (i j : Nat) (hi : i < s.q.length) (hj : j < s.b.length) => HI.out.end hem hi hj)
            clear hem
            go_wp2_with fail
            refine HEM.out.mono ?_
            rintro e w5 ⟨rfl, ho⟩
            have H2 := hid ho
            clear ho HEM H1
            go_wp2_with fail
            have HPL := hid (fun i => Nat.le_trans (HI.out.lp i) (show 5000 ≤ 1000000 by decide))
            have HTL := hid (fun i => Nat.le_trans (HI.out.lt i) (show 5000 + i2 ≤ 1000000 by have h1 := HG.out; have h2 := HRL.out; omega))
            have HE := hid HI.out.e
            have HLP : Hid (p1.length = ns ∧ p2.length = no) := by have h1 := H2.out.len1; have h2 := HI.out.o.lp; have h3 := HI.out.o.lt; have h4 := HL.out; show _ ∧ _; omega
            clear HG HI
            generalize w5 = W4 at *
            go_loopg [24] no (fun q s24 wx => ∃ j : Nat, s24 = .int .i64 (j : Int) ∧ Hid (j + q = no) ∧ Hid (Fr W4 wx (fun _ => False)))
            case atStart => exact ⟨0, rfl, by show _ = _; omega, by first | exact Fr.refl _ _ | exact (Fr.refl _ _).drewN _⟩
            case round =>
              obtain ⟨j, rfl, HG, HF⟩ := hrel
              cases gk with
              | zero =>
                have t1 : ¬ (j : Int) < (no : Int) := by have := HG.out; omega
                go_wp2_with fail
                go_ret
                exact ⟨rfl, H2.out.fr.trans HF.out⟩
              | succ q =>
                have hj : j < no := by have := HG.out; omega
                have t1 : (j : Int) < (no : Int) := by omega
                go_wp2_with fail
                generalize wr = W5 at *
                go_loopg [25] ns (fun r s25 wx => ∃ i : Nat, s25 = .int .i64 (i : Int) ∧ Hid (i + r = ns) ∧ Hid (Fr W4 wx (fun _ => False)))
                case atStart => exact ⟨0, rfl, by show _ = _; omega, by first | exact HF | exact HF.out.drewN _⟩
                case round =>
                  obtain ⟨i, rfl, HG2, HF2⟩ := hrel
                  cases gk with
                  | zero =>
                    have t2 : ¬ (i : Int) < (ns : Int) := by have := HG2.out; omega
                    go_wp2_with fail
                    go_roundg q
                    case measure => omega
                    case rel => exact ⟨j + 1, by go_num, by have := HG.out; show _ = _; omega, HF2⟩
                  | succ r =>
                    have hi : i < ns := by have := HG2.out; omega
                    have t2 : (i : Int) < (ns : Int) := by omega
                    have HO := hid (H2.out.still HF2.out)
                    obtain ⟨ao, cap, hv1, c1⟩ := HO.out.p.cell (i := i) (by have := HLP.out; omega)
                    obtain ⟨bo, cap2, hv2, c2⟩ := HO.out.t.cell (i := j) (by have := HLP.out; omega)
                    have l1 := lt_of_block HO.out.p.row
                    have l2 := lt_of_block HO.out.t.row
                    have HAN : Hid (∀ W : World, Fr W4 W (fun _ => False) → Calls Try.prog 20 #[.slice ao (put.getD i []).length cap, .slice bo (took.getD j []).length cap2, .int .i64 (i : Int), .int .i64 (j : Int), .pointer (some ⟨B, 0, none⟩)] W fun e w' => e = .returned (.bool true) ∧ Fr W w' (fun _ => False)) := fun W hW => by
                      have HO' := H2.out.still hW
                      have h1 := HO'.p.own i (by have := HLP.out; omega)
                      have h2 := HO'.t.own j (by have := HLP.out; omega)
                      rw [hv1] at h1
                      rw [hv2] at h2
                      exact inorder_any (n := s.b.length) (own_itR h1) (own_msR h2) (HPL.out i) (HTL.out j) ⟨by omega, by omega⟩ (fun W k hW hk => (HO'.still hW).route k hk) (HE.out i) (HFI.out i j (by have := HL.out; omega) (by have := HL.out; omega))
                    have HCL : Hid (∀ W : World, Fr W4 W (fun _ => False) → Hid (Fr W4 W (fun _ => False)) ∧ W.cell? ⟨Q1, i, none⟩ = some (.slice ao (put.getD i []).length cap) ∧ W.cell? ⟨Q2, j, none⟩ = some (.slice bo (took.getD j []).length cap2) ∧ Q1 < W.heap.size ∧ Q2 < W.heap.size) := fun W hW => by
                      have HO' := H2.out.still hW
                      obtain ⟨a1, c1, hv3, d1⟩ := HO'.p.cell (i := i) (by have := HLP.out; omega)
                      obtain ⟨a2, c2, hv4, d2⟩ := HO'.t.cell (i := j) (by have := HLP.out; omega)
                      rw [hv1] at hv3
                      rw [hv2] at hv4
                      rw [← hv3] at d1
                      rw [← hv4] at d2
                      exact ⟨hid hW, d1, d2, lt_of_block HO'.p.row, lt_of_block HO'.t.row⟩
                    have HI9 := hid hi
                    have HJ9 := hid hj
                    have i1 : (i : Int) < (ns : Int) := by omega
                    clear hv1 hv2 hi hj HO
                    generalize (put.getD i []).length = lp at *
                    generalize (took.getD j []).length = lt at *
                    go_wp2_with fail
                    go_region_held3 (fun W' => Hid (Fr W4 W' (fun _ => False)) ∧ W'.cell? ⟨Q1, i, none⟩ = some (.slice ao lp cap) ∧ W'.cell? ⟨Q2, j, none⟩ = some (.slice bo lt cap2) ∧ Q1 < W'.heap.size ∧ Q2 < W'.heap.size)
                      ((refine HCL.out _ ?_; first | exact HF3.out | exact HF3.out.drewN _ | exact HF2.out | exact HF2.out.drewN _))
                      ((go_at_call 20; refine (HAN.out _ (by first | exact HF2.out | exact HF2.out.drewN _)).mono ?_; rintro e w6 ⟨rfl, hf6⟩; have HF3 := hid (Fr.trans (by first | exact HF2.out | exact HF2.out.drewN _) hf6); clear hf6))
                    all_goals
                      go_wp2_with fail
                      go_roundg r
                      case measure => omega
                      case rel => exact ⟨i + 1, by go_num, by have := HG2.out; show _ = _; omega, HF3⟩
          · have hef : empB s = false := by simpa using hem
            clear hem
            rw [hef] at HEM
            have hK : 0 ≤ 17 * (n0 : Int) - (i2 : Int) := Int.le_trans (phi_nonneg H1.out.wf HI.out.i) HI.out.ph
            have HPA := hid (PrA.start (K := 17 * (n0 : Int) - (i2 : Int)) hef)
            clear hef
            cases gk with
            | zero => have := HG.out; omega
            | succ q =>
              have t1 : ¬ (20 * (n0 : Int) + 100 < (i2 : Int)) := by omega
              have hi2 : i2 ≤ 85000 := by have := HRL.out; omega
              have HKK := hid hK
              have HI85 := hid hi2
              clear hK hi2
              go_wp2_with fail
              refine HEM.out.mono ?_
              rintro e w5 ⟨rfl, ho⟩
              have H2 := hid ho
              clear ho HEM H1
              go_wp2_with fail
              generalize hKe : 17 * (n0 : Int) - (i2 : Int) = Ke at *
              generalize hmt : 5000 + i2 = mt at *
              have HKe := hid hKe
              have Hmt := hid hmt
              clear hKe hmt t1
              go_loopg [19] ns (fun r s19 wx => ∃ (i : Nat) (s : Ps), s19 = .int .i64 (i : Int) ∧ Hid (i + r = ns) ∧ Hid (Oi s put took Ke 5000 mt) ∧ Hid (PrA s Ke i) ∧ Hid (s.q.length = ns ∧ s.b.length = no) ∧ Hid (Oo w wx B box s put took Q1 Q2 p1 p2))
              case atStart => exact ⟨0, s, rfl, by show _ = _; omega, HI, HPA, HL, by first | exact H2 | exact H2.out.still (Fr.drewN (Fr.refl _ _) _)⟩
              case round =>
                clear HI HPA HL H2
                clear s
                obtain ⟨i, s, rfl, HG2, HI, HPA, HL, H2⟩ := hrel
                cases gk with
                | succ r =>
                  have t2 : (i : Int) < (ns : Int) := by have := HG2.out; omega
                  have HPS := hid (H2.out.pass (i : Int))
                  have HI3 := hid (HI.out.pass H2.out.wf (i : Int))
                  have HPA3 := hid (HPA.out.step HI.out.ph H2.out.wf)
                  have HL3 : Hid ((pasS s box (i : Int)).q.length = ns ∧ (pasS s box (i : Int)).b.length = no) := by have h1 := HI.out.o.lp; have h2 := HI3.out.o.lp; have h3 := HI.out.o.lt; have h4 := HI3.out.o.lt; have h5 := HL.out; exact ⟨by omega, by omega⟩
                  generalize (pasR s box (i : Int)).1 = pr1 at *
                  generalize (pasR s box (i : Int)).2 = pr2 at *
                  generalize pasS s box (i : Int) = s3 at *
                  clear HI HPA HL
                  go_wp2_with fail
                  refine HPS.out.mono ?_
                  rintro e w6 ⟨rfl, ho⟩
                  have H3 := hid ho
                  clear ho HPS H2
                  go_wp2_with fail
                  go_roundg r
                  case measure => omega
                  case rel => exact ⟨i + 1, s3, by go_num, by have := HG2.out; show _ = _; omega, HI3, HPA3, HL3, H3⟩
                | zero =>
                  have t2 : ¬ (i : Int) < (ns : Int) := by have := HG2.out; omega
                  have HPB := hid (HPA.out.all (by have h1 := HL.out; have h2 := HG2.out; omega))
                  clear HPA
                  go_wp2_with fail
                  clear t2 HG2
                  go_loopg [20] no (fun r s20 wx => ∃ (j : Nat) (s : Ps) (took : List (List Ms)) (p2 : List Value), s20 = .int .i64 (j : Int) ∧ Hid (j + r = no) ∧ Hid (Oi s put took Ke 5000 (mt + (if 0 < j then 1 else 0))) ∧ Hid (∀ k, j ≤ k → (took.getD k []).length ≤ mt) ∧ Hid (PrB s Ke j) ∧ Hid (s.q.length = ns ∧ s.b.length = no) ∧ Hid (Oo w wx B box s put took Q1 Q2 p1 p2))
                  case atStart => exact ⟨0, s, took, p2, rfl, by show _ = _; omega, HI, fun k _ => HI.out.lt k, HPB, HL, by first | exact H2 | exact H2.out.still (Fr.drewN (Fr.refl _ _) _)⟩
                  case round =>
                    clear HI HPB HL H2
                    obtain ⟨j, s, took, p2, rfl, HG2, HI, HMT, HPB, HL, H2⟩ := hrel
                    cases gk with
                    | zero =>
                      have t2 : ¬ (j : Int) < (no : Int) := by have := HG2.out; omega
                      have HI3 : Hid (Oi s put took (17 * (n0 : Int) - ((i2 + 1 : Nat) : Int)) 5000 (5000 + (i2 + 1))) := by
                        have h1 := HPB.out.all (by have h1 := HL.out; have h2 := HG2.out; omega)
                        have h2 := HKe.out
                        have h3 := Hmt.out
                        have hz := HI.out
                        exact ⟨hz.o, hz.i, hz.e, by omega, hz.lp, fun k => Nat.le_trans (hz.lt k) (by split <;> omega)⟩
                      go_wp2_with fail
                      go_roundg q
                      case measure => omega
                      case rel => exact ⟨i2 + 1, s, put, took, p1, p2, by go_num, by have := HG.out; show _ = _; omega, HI3, HL, H2⟩
                    | succ r =>
                      have hjn : j < no := by have := HG2.out; omega
                      have t2 : (j : Int) < (no : Int) := by omega
                      have HTB := hid (H2.out.take (j : Int))
                      by_cases he : (takR s (j : Int)).2 = 0
                      · obtain ⟨n', hn', hn, m, L, hq, hm⟩ := tak_at he
                        obtain rfl : j = n' := by omega
                        have HIM := HI.out.take1 HMT.out hn hq
                        have HI2 := hid HIM.1
                        have HM2 := hid HIM.2
                        have HPB2 := hid (PrB.some (K := Ke) HI.out.ph hn hq)
                        have hnp : j < p2.length := by have h1 := H2.out.len1.2; have h2 := HI.out.o.lt; omega
                        have HLL : Hid ((took.getD j []).length < 1000000) := by have h1 := HMT.out j (Nat.le_refl _); have h2 := Hmt.out; have h3 := HI85.out; show _ < _; omega
                        have HL2 : Hid ((takS s (j : Int)).q.length = ns ∧ (takS s (j : Int)).b.length = no) := by have h1 := HI.out.o.lp; have h2 := HI2.out.o.lp; have h3 := HI.out.o.lt; have h4 := HI2.out.o.lt; have h5 := HL.out; rw [List.length_set] at h4; exact ⟨by omega, by omega⟩
                        rw [he, hm] at HTB
                        clear HIM he hn hq hm hn' HI HMT HPB HL H2
                        generalize takS s (j : Int) = s2 at *
                        unfold vI at HTB
                        go_wp2_with fail
                        refine HTB.out.mono ?_
                        rintro e w4 ⟨rfl, ho2⟩
                        have HO1 := hid ho2
                        clear HTB ho2
                        go_upto_region 40 with fail
                        have HO2 := hid (HO1.out.still (alloc_fr w4 (.cells #[.bool m.x.m, .string m.x.k, .int .i64 m.x.t, .int .i64 m.x.v] 33) (fun _ => False)))
                        have HC2 : Hid (BxI (w4.alloc (.cells #[.bool m.x.m, .string m.x.k, .int .i64 m.x.t, .int .i64 m.x.v] 33)) w4.heap.size m.x) := heap_last _ _ _ rfl
                        clear HO1
                        generalize w4.heap.size = N2 at *
                        generalize w4.alloc (.cells #[.bool m.x.m, .string m.x.k, .int .i64 m.x.t, .int .i64 m.x.v] 33) = w5 at *
                        obtain ⟨x0, x1, x2, x3, xl⟩ := HC2.out.at
                        have HOWN : Hid (∀ W : World, Fr w5 W (fun _ => False) → W.ownsRow w.heap.size 52 5 (p2.getD j nil3) (took.getD j []).length (fl elM (took.getD j []))) := fun W hW => (HO2.out.still hW).t.own j hnp
                        obtain ⟨ao, cap, hv, hcq⟩ := HO2.out.t.cell hnp
                        rw [hv] at HOWN
                        have HV := hid hv
                        clear hv
                        have hql : Q2 < w5.heap.size := lt_of_block HO2.out.t.row
                        have HNEW := hid (new_at (W := w5) (L := elM m) (T := 52))
                        have HLS : Hid (w.heap.size ≤ (w5.alloc (.cells (elM m).toArray 52)).drew.heap.size) := by have h1 := HO2.out.fr.size; show w.heap.size ≤ (w5.alloc (.cells (elM m).toArray 52)).heap.size; simp; omega
                        generalize took.getD j [] = Lq at *
                        generalize hll : Lq.length = ll at *
                        have HLE := hid hll
                        clear hll
                        have HNP := hid hnp
                        have HJN := hid hjn
                        clear hnp hjn
                        go_wp2_with fail
                        go_region_law (refine step_app kdT rfl (.tmp 158) (.tmp 162) rfl (lo := w.heap.size) (v := .slice ao ll cap) (L := Lq) (by first | rfl | simp [Act.eval, Act.put]) (by rw [HLE.out]; exact HOWN.out _ (alloc_fr _ _ _).drew) ⟨w5.heap.size, 0, none⟩ 1 1 [m] (by first | rfl | simp [Act.eval, Act.put]) rfl HNEW.out (by have h1 := HLL.out; have h2 := HLE.out; omega) HLS.out (ll + 1) (by rw [HLE.out]) ?_; intro ao2 cap2 w6 G1 G2 G3; have HST := hid (HO2.out.appT HNP.out (by rw [HV.out]; exact ((alloc_fr w5 (.cells (elM m).toArray 52) _).drew).trans G2.out) G1.out (by rw [HV.out]; exact G3.out.lower (by simp))); obtain ⟨⟨u9, hu9⟩, hfz9, hQ9, _⟩ := HST.out)
                        all_goals
                          go_wp2_with fail
                          go_roundg r
                          case measure => omega
                          case rel => exact ⟨j + 1, s2, took.set j (Lq ++ [m]), p2.set j (.slice ao2 (ll + 1) cap2), by go_num, by have := HG2.out; show _ = _; omega, HI2, HM2, HPB2, HL2, hid HST.out.2.2.2⟩
                      · have q0 : ((takR s (j : Int)).2 == 0) = false := by simpa using he
                        have HPB2 := hid (HPB.out.none he)
                        have HI2 : Hid (Oi s put took Ke 5000 (mt + (if 0 < j + 1 then 1 else 0))) := HI.out.more (Int.le_refl _) (Nat.le_refl _) (by split <;> simp)
                        have HM2 : Hid (∀ k, j + 1 ≤ k → (took.getD k []).length ≤ mt) := fun k hk => HMT.out k (by omega)
                        rw [notake he] at HTB
                        clear he
                        generalize (takR s (j : Int)).2 = te at *
                        generalize (takR s (j : Int)).1 = tm at *
                        unfold vI at HTB
                        go_wp2_with fail
                        refine HTB.out.mono ?_
                        rintro e w5 ⟨rfl, ho2⟩
                        have H3 := hid (ho2.still (alloc_fr w5 (.cells #[.bool tm.x.m, .string tm.x.k, .int .i64 tm.x.t, .int .i64 tm.x.v] 33) (fun _ => False)))
                        clear HTB ho2 H2
                        go_wp2_with fail
                        go_roundg r
                        case measure => omega
                        case rel => exact ⟨j + 1, s, took, p2, by go_num, by have := HG2.out; show _ = _; omega, HI2, HM2, HPB2, HL, H3⟩
      | succ q =>
        have hi : i < rs.length := by have := HG.out; omega
        have t1 : (i : Int) < (rs.length : Int) := by omega
        have hib : i < 5000 := by have := HR5.out; omega
        obtain ⟨b, off, rfl, c0, c1, c2, c3, c4, c5⟩ := (HS.out.step H1.out.fr).at hi
        have hbl := World.block_lt_of_cell? wr _ c0
        clear hi
        generalize rs.getD i sp0 = st at *
        obtain ⟨kd, A, x⟩ := st
        simp only at c0 c1 c2 c3 c4 c5
        go_upto_region 17 with fail
        have HB : Hid (BxP (wr.alloc (.cells #[.int .i64 kd, .int .i64 A, .bool x.m, .string x.k, .int .i64 x.t, .int .i64 x.v] 35)) wr.heap.size ⟨kd, A, x⟩) := heap_last _ _ _ rfl
        obtain ⟨d0, d1, d2, d3, d4, d5, dl⟩ := HB.out.at
        simp only at d0 d1 d2 d3 d4 d5
        clear c0 c1 c2 c3 c4 c5 hbl t1
        by_cases k1 : kd = 1
        · subst k1
          have HPB := hid (H1.out.putB (.cells #[.int .i64 1, .int .i64 A, .bool x.m, .string x.k, .int .i64 x.t, .int .i64 x.v] 35) A x)
          by_cases he : putE s A x = 0
          · obtain ⟨n, rfl, hn⟩ := put_at he
            have HI2 := hid (HI1.out.put he)
            have hnp : n < p1.length := by have h1 := H1.out.len1.1; have h2 := HI1.out.o.lp; omega
            have hns : (n : Int) < (ns : Int) := by have := HL.out.1; omega
            have HLL : Hid ((put.getD n []).length < 1000000) := by have h1 := HI1.out.lp n; have h2 := HG.out; have h3 := HR5.out; show _ < _; omega
            have HL2 : Hid ((putS s (n : Int) x).q.length = ns ∧ (putS s (n : Int) x).b.length = no) := by have h1 := HI1.out.o.lp; have h2 := HI2.out.o.lp; have h3 := HI1.out.o.lt; have h4 := HI2.out.o.lt; have h5 := HL.out; rw [List.length_set] at h2; exact ⟨by omega, by omega⟩
            rw [he] at HPB
            clear he hn
            generalize putS s (n : Int) x = s2 at *
            unfold vI at HPB
            go_wp2_with fail
            refine HPB.out.mono ?_
            rintro e w5 ⟨rfl, ho2, hb2, _⟩
            have HO2 := hid ho2
            have HB2 : Hid (BxP w5 wr.heap.size ⟨1, n, x⟩) := hb2
            clear HPB ho2 hb2 d0 d1 d2 d3 d4 d5 dl HB H1 HI1 HL
            generalize wr.heap.size = N at *
            obtain ⟨d0, d1, d2, d3, d4, d5, dl⟩ := HB2.out.at
            simp only at d0 d1 d2 d3 d4 d5
            have HOWN : Hid (∀ W : World, Fr w5 W (fun _ => False) → W.ownsRow w.heap.size 33 4 (p1.getD n nil3) (put.getD n []).length (fl elI (put.getD n []))) := fun W hW => (HO2.out.still hW).p.own n hnp
            obtain ⟨ao, cap, hv, hcq⟩ := HO2.out.p.cell hnp
            rw [hv] at HOWN
            have HV := hid hv
            clear hv
            have hql : Q1 < w5.heap.size := lt_of_block HO2.out.p.row
            have HNEW := hid (new_at (W := w5) (L := elI x) (T := 33))
            have HLS : Hid (w.heap.size ≤ (w5.alloc (.cells (elI x).toArray 33)).drew.heap.size) := by have h1 := HO2.out.fr.size; show w.heap.size ≤ (w5.alloc (.cells (elI x).toArray 33)).heap.size; simp; omega
            generalize put.getD n [] = Lq at *
            generalize hll : Lq.length = ll at *
            have HLE := hid hll
            clear hll
            have HNP := hid hnp
            clear hnp
            go_wp2_with fail
            go_region_law (refine step_app kdI rfl (.tmp 82) (.tmp 85) rfl (lo := w.heap.size) (v := .slice ao ll cap) (L := Lq) (by first | rfl | simp [Act.eval, Act.put]) (by rw [HLE.out]; exact HOWN.out _ (alloc_fr _ _ _).drew) ⟨w5.heap.size, 0, none⟩ 1 1 [x] (by first | rfl | simp [Act.eval, Act.put]) rfl HNEW.out (by have h1 := HLL.out; have h2 := HLE.out; omega) HLS.out (ll + 1) (by rw [HLE.out]) ?_; intro ao2 cap2 w6 G1 G2 G3; have HST := hid (HO2.out.appP HNP.out (by rw [HV.out]; exact ((alloc_fr w5 (.cells (elI x).toArray 33) _).drew).trans G2.out) G1.out (by rw [HV.out]; exact G3.out.lower (by simp))); have hB9 := (HB2.out.fr (((alloc_fr w5 (.cells (elI x).toArray 33) _).drew).trans G2.out) (fun e => own_ne (HOWN.out _ (Fr.refl _ _)) HB2.out (by decide) e)).at; simp only at hB9; obtain ⟨⟨u9, hu9⟩, hfz9, hQ9, _⟩ := HST.out; obtain ⟨_, r1, _, _, _, _, r5⟩ := hB9)
            all_goals
              go_wp2_with fail
              go_roundg q
              case measure => omega
              case rel => exact ⟨i + 1, s2, put.set n (Lq ++ [x]), took, p1.set n (.slice ao2 (ll + 1) cap2), p2, by go_num, by have := HG.out; show _ = _; omega, HI2.out.more (by omega) (by omega) (by omega), HL2, hid HST.out.2.2.2⟩
          · have q0 : (putE s A x == 0) = false := by simpa using he
            rw [noput he] at HPB
            clear he
            generalize putE s A x = pe at *
            unfold vI at HPB
            go_wp2_with fail
            refine HPB.out.mono ?_
            rintro e w5 ⟨rfl, ho2, _, _⟩
            have H2 := hid ho2
            clear HPB ho2 d0 d1 d2 d3 d4 d5 dl HB
            go_wp2_with fail
            go_roundg q
            case measure => omega
            case rel => exact ⟨i + 1, s, put, took, p1, p2, by go_num, by have := HG.out; show _ = _; omega, HI1.out.more (by omega) (by omega) (by omega), HL, H2⟩
        · by_cases k2 : kd = 2
          · subst k2
            have HPA := hid (H1.out.passB (.cells #[.int .i64 2, .int .i64 A, .bool x.m, .string x.k, .int .i64 x.t, .int .i64 x.v] 35) A)
            have HI2 := hid (HI1.out.pass H1.out.wf A)
            generalize (pasR s box A).1 = pr1 at *
            generalize (pasR s box A).2 = pr2 at *
            generalize pasS s box A = s2 at *
            have HL2 : Hid (s2.q.length = ns ∧ s2.b.length = no) := by have h1 := HI1.out.o.lp; have h2 := HI2.out.o.lp; have h3 := HI1.out.o.lt; have h4 := HI2.out.o.lt; have h5 := HL.out; exact ⟨by omega, by omega⟩
            go_wp2_with fail
            refine HPA.out.mono ?_
            rintro e w5 ⟨rfl, hoc⟩
            have H2 := hid hoc.1
            clear hoc HPA d0 d1 d2 d3 d4 d5 dl
            go_wp2_with fail
            go_roundg q
            case measure => omega
            case rel => exact ⟨i + 1, s2, put, took, p1, p2, by go_num, by have := HG.out; show _ = _; omega, HI2.out.more (by omega) (by omega) (by omega), HL2, H2⟩
          · by_cases k3 : kd = 3
            · subst k3
              have HTB := hid (H1.out.takeB (.cells #[.int .i64 3, .int .i64 A, .bool x.m, .string x.k, .int .i64 x.t, .int .i64 x.v] 35) A)
              by_cases he : (takR s A).2 = 0
              · obtain ⟨n, rfl, hn, m, L, hq, hm⟩ := tak_at he
                have HI2 := hid (HI1.out.take hn hq)
                have hnp : n < p2.length := by have h1 := H1.out.len1.2; have h2 := HI1.out.o.lt; omega
                have hns : (n : Int) < (no : Int) := by have := HL.out.2; omega
                have HLL : Hid ((took.getD n []).length < 1000000) := by have h1 := HI1.out.lt n; have h2 := HG.out; have h3 := HR5.out; show _ < _; omega
                have HL2 : Hid ((takS s (n : Int)).q.length = ns ∧ (takS s (n : Int)).b.length = no) := by have h1 := HI1.out.o.lp; have h2 := HI2.out.o.lp; have h3 := HI1.out.o.lt; have h4 := HI2.out.o.lt; have h5 := HL.out; rw [List.length_set] at h4; exact ⟨by omega, by omega⟩
                rw [he, hm] at HTB
                clear he hn hq hm
                generalize takS s (n : Int) = s2 at *
                unfold vI at HTB
                go_wp2_with fail
                refine HTB.out.mono ?_
                rintro e w4 ⟨rfl, ho2, hb2, _⟩
                have HO1 := hid ho2
                have HB1 : Hid (BxP w4 wr.heap.size ⟨3, n, x⟩) := hb2
                clear HTB ho2 hb2 d0 d1 d2 d3 d4 d5 dl HB H1 HI1 HL
                generalize wr.heap.size = N at *
                go_upto_region 25 with fail
                have HO2 := hid (HO1.out.still (alloc_fr w4 (.cells #[.bool m.x.m, .string m.x.k, .int .i64 m.x.t, .int .i64 m.x.v] 33) (fun _ => False)))
                have HB2 := hid (HB1.out.fr (alloc_fr w4 (.cells #[.bool m.x.m, .string m.x.k, .int .i64 m.x.t, .int .i64 m.x.v] 33) (fun _ => False)) (fun h => h))
                have HC2 : Hid (BxI (w4.alloc (.cells #[.bool m.x.m, .string m.x.k, .int .i64 m.x.t, .int .i64 m.x.v] 33)) w4.heap.size m.x) := heap_last _ _ _ rfl
                clear HO1 HB1
                generalize w4.heap.size = N2 at *
                generalize w4.alloc (.cells #[.bool m.x.m, .string m.x.k, .int .i64 m.x.t, .int .i64 m.x.v] 33) = w5 at *
                obtain ⟨d0, d1, d2, d3, d4, d5, dl⟩ := HB2.out.at
                simp only at d0 d1 d2 d3 d4 d5
                clear d2 d3 d4 d5
                obtain ⟨x0, x1, x2, x3, xl⟩ := HC2.out.at
                have HOWN : Hid (∀ W : World, Fr w5 W (fun _ => False) → W.ownsRow w.heap.size 52 5 (p2.getD n nil3) (took.getD n []).length (fl elM (took.getD n []))) := fun W hW => (HO2.out.still hW).t.own n hnp
                obtain ⟨ao, cap, hv, hcq⟩ := HO2.out.t.cell hnp
                rw [hv] at HOWN
                have HV := hid hv
                clear hv
                have hql : Q2 < w5.heap.size := lt_of_block HO2.out.t.row
                have HNEW := hid (new_at (W := w5) (L := elM m) (T := 52))
                have HLS : Hid (w.heap.size ≤ (w5.alloc (.cells (elM m).toArray 52)).drew.heap.size) := by have h1 := HO2.out.fr.size; show w.heap.size ≤ (w5.alloc (.cells (elM m).toArray 52)).heap.size; simp; omega
                generalize took.getD n [] = Lq at *
                generalize hll : Lq.length = ll at *
                have HLE := hid hll
                clear hll
                have HNP := hid hnp
                clear hnp
                go_wp2_with fail
                go_region_law (refine step_app kdT rfl (.tmp 113) (.tmp 117) rfl (lo := w.heap.size) (v := .slice ao ll cap) (L := Lq) (by first | rfl | simp [Act.eval, Act.put]) (by rw [HLE.out]; exact HOWN.out _ (alloc_fr _ _ _).drew) ⟨w5.heap.size, 0, none⟩ 1 1 [m] (by first | rfl | simp [Act.eval, Act.put]) rfl HNEW.out (by have h1 := HLL.out; have h2 := HLE.out; omega) HLS.out (ll + 1) (by rw [HLE.out]) ?_; intro ao2 cap2 w6 G1 G2 G3; have HST := hid (HO2.out.appT HNP.out (by rw [HV.out]; exact ((alloc_fr w5 (.cells (elM m).toArray 52) _).drew).trans G2.out) G1.out (by rw [HV.out]; exact G3.out.lower (by simp))); have hB9 := (HB2.out.fr (((alloc_fr w5 (.cells (elM m).toArray 52) _).drew).trans G2.out) (fun e => own_ne (HOWN.out _ (Fr.refl _ _)) HB2.out (by decide) e)).at; simp only at hB9; obtain ⟨⟨u9, hu9⟩, hfz9, hQ9, _⟩ := HST.out; obtain ⟨_, r1, _, _, _, _, r5⟩ := hB9)
                all_goals
                  go_wp2_with fail
                  go_roundg q
                  case measure => omega
                  case rel => exact ⟨i + 1, s2, put, took.set n (Lq ++ [m]), p1, p2.set n (.slice ao2 (ll + 1) cap2), by go_num, by have := HG.out; show _ = _; omega, HI2.out.more (by omega) (by omega) (by omega), HL2, hid HST.out.2.2.2⟩
              · have q0 : ((takR s A).2 == 0) = false := by simpa using he
                rw [notake he] at HTB
                clear he
                generalize (takR s A).2 = te at *
                generalize (takR s A).1 = tm at *
                unfold vI at HTB
                go_wp2_with fail
                refine HTB.out.mono ?_
                rintro e w5 ⟨rfl, ho2, _, _⟩
                have H2 := hid (ho2.still (alloc_fr w5 (.cells #[.bool tm.x.m, .string tm.x.k, .int .i64 tm.x.t, .int .i64 tm.x.v] 33) (fun _ => False)))
                clear HTB ho2 d0 d1 d2 d3 d4 d5 dl HB
                go_wp2_with fail
                go_roundg q
                case measure => omega
                case rel => exact ⟨i + 1, s, put, took, p1, p2, by go_num, by have := HG.out; show _ = _; omega, HI1.out.more (by omega) (by omega) (by omega), HL, H2⟩
            · have q1 : (kd == 1) = false := by simpa using k1
              have q2 : (kd == 2) = false := by simpa using k2
              have q3 : (kd == 3) = false := by simpa using k3
              have H2 := hid (H1.out.still (alloc_fr wr (.cells #[.int .i64 kd, .int .i64 A, .bool x.m, .string x.k, .int .i64 x.t, .int .i64 x.v] 35) (fun _ => False)))
              go_wp2_with fail
              go_roundg q
              case measure => omega
              case rel => exact ⟨i + 1, s, put, took, p1, p2, by go_num, by have := HG.out; show _ = _; omega, HI1.out.more (by omega) (by omega) (by omega), HL, H2⟩
end Go.Proofs.Ytlgbciibhmcokaa
