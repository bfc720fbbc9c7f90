/- The law's apart over rows that may begin inside a block: its walk. -/
import Derived.Test.YtedlpefglgleeabNBk2
namespace Go.Proofs.Ytedlpefglgleeab
open Go.RowKit

set_option maxRecDepth 100000 in
set_option maxHeartbeats 8000000 in
theorem apart_anyq {N : Nat} {wx : World} {aK aW : Option Addr} {cK cW n : Nat} {VK VW : List Value} {xs : List (List Nat)} (hB : BQ N wx wx (.slice aK n cK) (.slice aW n cW) VK VW xs xs n) (hn : n ≤ 100) :
    Calls Try.prog 23 #[.slice aK n cK, .slice aW n cW] wx fun e w' => e = .returned (.bool true) ∧ ∃ ks, BQ N wx w' (.slice aK n cK) (.slice aW n cW) VK VW ks xs n := by
  have HMK := hidq (fun W : World => run_make_row' (P := Try.prog) 43 22 (.slice none 0 0) 24 Try.underlying43 Try.info_slq rfl .i64 .i64 n (by omega) (by omega) W)
  have hmk := HMK.out wx
  have HA0 := hidq (AQ.start (P1 := q1) (P2 := q2) hB hn)
  obtain ⟨k0, kinfo, kz0, kz1, kz2⟩ := info_parts Try.info5
  have hbase := hB.base
  clear hB
  go_enter Try.func23, Try.ntmps23
  go_wp2_with fail
  clear hmk HMK
  generalize wx.alloc (.cells (madeCells #[Value.slice none 0 0] n) 22) = wy at *
  generalize hgM : wx.heap.size = gM at *
  clear hgM
  go_loopg [6] n (fun g s6 wz => ∃ (i : Nat) (MS : List Value) (ks : List (List Nat)), s6 = .int .i64 (i : Int) ∧ i + g = n ∧ Hid (AQ N wx wz (.slice aK n cK) (.slice aW n cW) (.slice (some ⟨gM, 0, none⟩) n n) VK VW MS ks xs n i q1 q2) ∧ Hid (∀ q, ks.getD q [] = xs.getD q []))
  case atStart => exact ⟨0, _, xs, rfl, by omega, HA0, fun _ => rfl⟩
  case round =>
    obtain ⟨i, MS, ks, rfl, hg, HA, HE⟩ := hrel
    clear HA0
    cases gk with
    | zero =>
      have t1 : ¬ (i : Int) < (n : Int) := by omega
      obtain rfl : i = n := by omega
      clear hg
      have HAA := HA
      go_wp2_with fail
      clear t1
      go_loopg [7] i (fun g s7 wz => ∃ p : Nat, s7 = .int .i64 (p : Int) ∧ p + g = i ∧ Hid (AQ N wx wz (.slice aK i cK) (.slice aW i cW) (.slice (some ⟨gM, 0, none⟩) i i) VK VW MS ks xs i i q1 q2))
      case atStart => exact ⟨0, rfl, by omega, HA⟩
      case round =>
        clear HA HAA
        obtain ⟨p, rfl, hg, HA⟩ := hrel
        cases gk with
        | zero =>
          have t1 : ¬ (p : Int) < (i : Int) := by omega
          clear hg
          go_wp2_with fail
          clear t1
          have HMM : Hid (Mkq ks xs 0) := ⟨HA.out.len, fun q hq => absurd hq (Nat.not_lt_zero q)⟩
          clear HE
          go_loopg [9] i (fun g s9 wz => ∃ (p : Nat) (ks : List (List Nat)), s9 = .int .i64 (p : Int) ∧ p + g = i ∧ Hid (AQ N wx wz (.slice aK i cK) (.slice aW i cW) (.slice (some ⟨gM, 0, none⟩) i i) VK VW MS ks xs i i q1 q2) ∧ Hid (Mkq ks xs p))
          case atStart => exact ⟨0, ks, rfl, by omega, HA, HMM⟩
          case round =>
            clear HA HMM
            obtain ⟨p, ks, rfl, hg, HA, HMM⟩ := hrel
            cases gk with
            | zero =>
              have t1 : ¬ (p : Int) < (i : Int) := by omega
              have HPI := hidq (show p = i by omega)
              clear hg
              go_wp2_with fail
              clear t1
              obtain ⟨W0, rfl⟩ : ∃ W0 : World, W0 = wr := ⟨_, rfl⟩
              go_loopg [11] i (fun g s11 wx => ∃ r : Nat, s11 = .int .i64 (r : Int) ∧ r + g = i ∧ wx = W0)
              case atStart => exact ⟨0, rfl, by omega, rfl⟩
              case round =>
                obtain ⟨r, rfl, hg, hwx⟩ := hrel
                subst hwx
                cases gk with
                | zero =>
                  have t1 : ¬ (r : Int) < (i : Int) := by omega
                  clear hg
                  go_wp2_with fail
                  go_ret
                  exact ⟨rfl, ks, HA.out.bb⟩
                | succ G6 =>
                  have hr : r < i := by omega
                  have t1 : (r : Int) < (i : Int) := by omega
                  have HG := hidq hg
                  clear hg
                  obtain ⟨gK, cK', e1, hcK, _⟩ := spine_cellq HA.out.bb.sk (i := r) hr
                  simp only [Value.slice.injEq] at e1
                  obtain ⟨rfl, hnn1, rfl⟩ := e1
                  clear hnn1
                  obtain ⟨gM', cM', eM, hcM, hfM⟩ := spine_cellq HA.out.sm hr
                  simp only [Value.slice.injEq, Option.some.injEq, Addr.mk.injEq, and_true, true_and] at eM
                  obtain ⟨rfl, rfl⟩ := eM
                  obtain ⟨g9, o9, cap9, hM9, hm1, hm2⟩ := (HA.out.mo r hr).cells
                  have hoA := HA.out.bb.k.own r (by rw [HA.out.bb.klen]; exact hr)
                  obtain ⟨aA, cA, hA, _⟩ := hoA.shape
                  have hshort := HA.out.bb.short r
                  have hlr := HA.out.len r
                  rw [hA, hlr] at hcK
                  rw [hM9] at hcM
                  have HNEW := hidq (fun k hk => HMM.out.new r (by rw [HPI.out]; exact hr) k hk)
                  have HOA := hidq hoA
                  rw [hA] at HOA
                  have HLR := hidq hlr
                  clear hoA hA hM9 hlr hfM
                  rw [← q1_int] at hm1
                  rw [← q2_int] at hm2
                  generalize hX : xs.getD r [] = X at *
                  have HX := hidq hX
                  clear hX
                  go_wp2_with fail
                  clear hm1 hm2 hcM
                  obtain ⟨W1, rfl⟩ : ∃ W1 : World, W1 = wr := ⟨_, rfl⟩
                  go_loopg [13] X.length (fun g s13 wx => ∃ k : Nat, s13 = .int .i64 (k : Int) ∧ k + g = X.length ∧ wx = W1)
                  case atStart => exact ⟨0, rfl, by omega, rfl⟩
                  case round =>
                    obtain ⟨k, rfl, hg7, hwx⟩ := hrel
                    subst hwx
                    cases gk with
                    | zero =>
                      have t3 : ¬ (k : Int) < (X.length : Int) := by omega
                      clear hg7
                      go_wp2_with fail
                      go_roundg G6
                      case measure => omega
                      case rel => exact ⟨r + 1, by go_num, by have := HG.out; omega, rfl⟩
                    | succ g7 =>
                      have hk : k < X.length := by omega
                      have t3 : (k : Int) < (X.length : Int) := by omega
                      obtain ⟨gA, oA, hgA⟩ := HOA.out.of.addr (by rw [HLR.out]; omega)
                      subst hgA
                      have hcC := (HOA.out.slot rfl k (by rw [HLR.out]; exact hk)).1
                      rw [HNEW.out k hk] at hcC
                      rw [← mkq_int] at hcC
                      have HG7 := hidq hg7
                      clear hg7
                      go_wp2_with fail
                      go_roundg g7
                      case measure => omega
                      case rel => exact ⟨k + 1, by go_num, by have := HG7.out; omega, rfl⟩
            | succ G2 =>
              have hp : p < i := by omega
              have t1 : (p : Int) < (i : Int) := by omega
              have HP := hidq hp
              have HG := hidq hg
              have hshort := HA.out.bb.short p
              clear hg
              go_wp2_with fail
              go_loopg [10] (xs.getD p []).length (fun g s10 wz => ∃ (k : Nat) (ks' : List (List Nat)), s10 = .int .i64 (k : Int) ∧ k + g = (xs.getD p []).length ∧ Hid (AQ N wx wz (.slice aK i cK) (.slice aW i cW) (.slice (some ⟨gM, 0, none⟩) i i) VK VW MS ks' xs i i q1 q2) ∧ Hid (∀ q, q ≠ p → ks'.getD q [] = ks.getD q []) ∧ Hid (∀ q, q < k → (ks'.getD p []).getD q 0 = mkq p q))
              case atStart => exact ⟨0, ks, rfl, by omega, HA, fun _ _ => rfl, fun q hq => absurd hq (Nat.not_lt_zero q)⟩
              case round =>
                obtain ⟨k, ks', rfl, hg3, HA3, HEQ, HNW⟩ := hrel
                obtain ⟨gK, cK', e1, hcK, _⟩ := spine_cellq HA3.out.bb.sk (i := p) hp
                simp only [Value.slice.injEq] at e1
                obtain ⟨rfl, hnn1, rfl⟩ := e1
                clear hnn1
                have hoA := HA3.out.bb.k.own p (by rw [HA3.out.bb.klen]; exact hp)
                obtain ⟨aA, cA, hA, _⟩ := hoA.shape
                rw [hA, HA3.out.len p] at hcK
                cases gk with
                | zero =>
                  have t3 : ¬ (k : Int) < ((xs.getD p []).length : Int) := by omega
                  have HKL := hidq (show k = (xs.getD p []).length by omega)
                  clear hg3 hoA hA
                  generalize hX : xs.getD p [] = X at *
                  have HX := hidq hX
                  clear hX
                  go_wp2_with fail
                  go_roundg G2
                  case measure => omega
                  case rel => exact ⟨p + 1, ks', by go_num, by have := HG.out; omega, HA3, HMM.out.next HEQ.out (HA3.out.len) (fun q hq => HNW.out q (by have := HKL.out; rw [HX.out] at hq; omega))⟩
                | succ g3 =>
                  have hk : k < (xs.getD p []).length := by omega
                  have t3 : (k : Int) < ((xs.getD p []).length : Int) := by omega
                  have hb1 := hoA
                  rw [hA] at hb1
                  obtain ⟨gA, oA, hgA⟩ := hb1.of.addr (by rw [HA3.out.len p]; omega)
                  subst hgA
                  obtain ⟨hcC, hfC⟩ := hoA.slot hA k (by rw [HA3.out.len p]; exact hk)
                  have HW3 := hidq (HA3.out.write HP.out hA hk (mkq p k))
                  have HG3 := hidq hg3
                  have HKX := hidq hk
                  clear hg3 hoA hA hb1 hk
                  generalize hX : xs.getD p [] = X at *
                  have HX := hidq hX
                  clear hX
                  go_wp2_with fail
                  go_roundg g3
                  case measure => omega
                  case rel =>
                    refine ⟨k + 1, _, by go_num, by have := HG3.out; omega, (by rw [mkq_int]; exact HW3), fun q hq => ?_, fun q hq => ?_⟩
                    · rw [getD_seq (by rw [HA3.out.bb.klen]; exact HP.out), if_neg hq]
                      exact HEQ.out q hq
                    · rw [getD_seq (by rw [HA3.out.bb.klen]; exact HP.out), if_pos rfl, getD_seq (by rw [HA3.out.len p, HX.out]; exact HKX.out)]
                      split
                      · rename_i e
                        rw [e]
                      · exact HNW.out q (by omega)
        | succ G2 =>
          have hp : p < i := by omega
          have t1 : (p : Int) < (i : Int) := by omega
          obtain ⟨gK, cK', e1, hcK, _⟩ := spine_cellq HA.out.bb.sk (i := p) hp
          simp only [Value.slice.injEq] at e1
          obtain ⟨rfl, hnn1, rfl⟩ := e1
          clear hnn1
          obtain ⟨gW, cW', e1, hcW, _⟩ := spine_cellq HA.out.bb.sw (i := p) hp
          simp only [Value.slice.injEq] at e1
          obtain ⟨rfl, hnn1, rfl⟩ := e1
          clear hnn1
          have hoA := HA.out.bb.k.own p (by rw [HA.out.bb.klen]; exact hp)
          have hoB := HA.out.bb.u.own p (by rw [HA.out.bb.len]; exact hp)
          have hshort := HA.out.bb.short p
          rw [HE.out p] at hoA
          obtain ⟨aA, cA, hA, _⟩ := hoA.shape
          obtain ⟨aB, cB, hBv, _⟩ := hoB.shape
          rw [hA] at hcK hoA
          rw [hBv] at hcW hoB
          have HOA := hidq hoA
          have HOB := hidq hoB
          have HG := hidq hg
          clear hoA hoB hA hBv hg
          generalize xs.getD p [] = X at *
          go_wp2_with fail
          go_quiet (fail)
          go_wp2_with fail
          obtain ⟨W0, rfl⟩ : ∃ W0 : World, W0 = wr := ⟨_, rfl⟩
          have HCK := hidq hcK
          have HCW := hidq hcW
          clear hcK hcW
          go_loopg [8] X.length (fun g s8 wx => ∃ k : Nat, s8 = .int .i64 (k : Int) ∧ k + g = X.length ∧ Hid (Fr W0 wx (fun _ => False)))
          case atStart => exact ⟨0, rfl, by omega, (Fr.refl _ _).drewN _⟩
          case round =>
            obtain ⟨k, rfl, hg3, HF⟩ := hrel
            have hcK : wr.cell? ⟨gK, p, none⟩ = some (.slice aA X.length cA) := by rw [(fr_rulesq HF.out) gK p (World.block_lt_of_cell? W0 _ HCK.out)]; exact HCK.out
            have hcW : wr.cell? ⟨gW, p, none⟩ = some (.slice aB X.length cB) := by rw [(fr_rulesq HF.out) gW p (World.block_lt_of_cell? W0 _ HCW.out)]; exact HCW.out
            cases gk with
            | zero =>
              have t3 : ¬ (k : Int) < (X.length : Int) := by omega
              clear hg3
              go_wp2_with fail
              go_roundg G2
              case measure => omega
              case rel => exact ⟨p + 1, by go_num, by have := HG.out; omega, HA.out.step HF.out⟩
            | succ g3 =>
              have hk : k < X.length := by omega
              have t3 : (k : Int) < (X.length : Int) := by omega
              obtain ⟨gA, oA, hgA⟩ := HOA.out.of.addr (by omega)
              subst hgA
              obtain ⟨gB, oB, hgB⟩ := HOB.out.of.addr (by omega)
              subst hgB
              have hc1 := ((HOA.out.fr HF.out (fun _ _ h => h)).slot rfl k hk).1
              have hc2 := ((HOB.out.fr HF.out (fun _ _ h => h)).slot rfl k hk).1
              have HG3 := hidq hg3
              clear hg3
              generalize X.getD k 0 = y at *
              go_wp2_with fail
              go_quiet (fail)
              go_wp2_with fail
              go_roundg g3
              case measure => omega
              case rel => exact ⟨k + 1, by go_num, by have := HG3.out; omega, HF.out.trans ((Fr.refl _ _).drewN _)⟩
    | succ g =>
      have hi : i < n := by omega
      have t1 : (i : Int) < (n : Int) := by omega
      obtain ⟨gK, cK', e1, hcK, _⟩ := spine_cellq HA.out.bb.sk (i := i) hi
      simp only [Value.slice.injEq] at e1
      obtain ⟨rfl, hnn1, rfl⟩ := e1
      clear hnn1
      have hoA := HA.out.bb.k.own i (by rw [HA.out.bb.klen]; exact hi)
      have hXe := HE.out i
      have hshort := HA.out.bb.short i
      rw [hXe] at hoA
      obtain ⟨aA, cA, hA, _⟩ := hoA.shape
      rw [hA] at hcK hoA
      have HAV := hidq hA
      have HOA := hidq hoA
      have HI := hidq hi
      have HG := hidq hg
      clear hoA hA hXe hg
      generalize hX : xs.getD i [] = X at *
      have HX := hidq hX
      clear hX
      have hsz : N ≤ wr.heap.size := Nat.le_trans HA.out.bb.base HA.out.bb.fr.size
      go_wp2_with (at_builtin; refine wpl_two _ rfl _ _ 22 rfl N k0 Try.underlying22 kinfo kz0 kz1 kz2 (.slice aA X.length cA) X (by rfl) (HOA.out.fr (alloc_fr wr _ (fun _ => False)) (fun _ _ h => h)) (.slice (some ⟨wr.heap.size, 0, none⟩) 2 2) (q1 i) (q2 i) (by rfl) (Or.inr ⟨_, _, rfl, fun j u hu => two_newq wr _ _ _ j u (by rw [q1_int, q2_int]; exact hu)⟩) (by omega) (by simp; omega) ?_; intro g3 o3 cap3 w3 HT; have HT2 := HT.out; rw [← HAV.out] at HT2; obtain ⟨rc, rf⟩ := HA.out.room HI.out HT2; have HPU0 := HA.out.push (cap := cap3) HI.out (by rw [HX.out]; exact HT2) rfl; rw [HX.out] at HPU0; have HPU := hidq HPU0; clear HPU0 HT2 HT hcK)
      go_roundg g
      case measure => omega
      case rel =>
        refine ⟨i + 1, _, _, by go_num, by have := HG.out; omega, HPU, fun q => ?_⟩
        rw [getD_seq (by rw [HA.out.bb.klen]; exact HI.out)]
        split
        · rename_i e
          rw [e]
          exact HX.out.symm
        · exact HE.out q
end Go.Proofs.Ytedlpefglgleeab
