/- The law's apart over bytes: its walk. -/
import Derived.Test.YtmadlmbpgkifoabBk1
import Derived.Test.YtmadlmbpgkifoabWbits
import Derived.Laws.OwnMore
import Derived.Deep.LoopGhost
import Derived.BigQuiet
import Derived.Below
namespace Go.Proofs.Ytmadlmbpgkifoab
open Go.RowKit

theorem Try.info_sl8 : (Try.prog.info? 24).map (fun i => (i.zero, i.size, i.bytes)) = some (some (.slice none 0 0), 1, 24) := by kernel_rfl
theorem two_new8 (w : World) (x y : Value) (e : TypeId) : ∀ (j : Nat) (u : Value), [x, y][j]? = some u → (w.alloc (.cells #[x, y] e)).cell? ((⟨w.heap.size, 0, none⟩ : Addr).add j) = some u := by
  intro j u hj
  have h := bk_last w (.cells #[x, y] e) _ rfl
  rw [Addr.add_lit, cell_of_row _ _ _ _ _ _ h, Nat.zero_add]
  match j, hj with
  | 0, hj => exact hj
  | 1, hj => exact hj
theorem made_own8 (w : World) (base n : Nat) (hb : base ≤ w.heap.size) (hn : n ≤ 100) : (w.alloc (.cells (madeCells #[Value.slice none 0 0] n) 24)).ownsRow base 24 1 (.slice (some ⟨w.heap.size, 0, none⟩) n n) n (List.replicate n (.slice none 0 0)) := by
  refine ⟨by simp, Or.inr ⟨w.heap.size, n, madeCells #[Value.slice none 0 0] n, rfl, hb, bk_last _ _ _ rfl, Nat.le_refl _, by unfold maxLen; omega, by rw [size_madeCells, Nat.mul_one], ?_⟩⟩
  rw [toList_madeCells_one]
  simp
theorem AB.start {N : Nat} {wx : World} {vK vW : Value} {VK VW : List Value} {xs : List (List Nat)} {n : Nat} {P1 P2 : Nat → Int} (h : BB N wx wx vK vW VK VW xs xs n) (hn : n ≤ 100) : AB N wx (wx.alloc (.cells (madeCells #[Value.slice none 0 0] n) 24)) vK vW (.slice (some ⟨wx.heap.size, 0, none⟩) n n) VK VW (List.replicate n (.slice none 0 0)) xs xs n 0 P1 P2 :=
  ⟨h.step (alloc_fr _ _ _), fun _ => rfl, made_own8 wx _ n h.base hn, fun b hb => by simp only [Value.ownBlock, Option.some.injEq] at hb; omega, fun b hb e => by simp only [Value.ownBlock, Option.some.injEq] at hb; have := (h.sk.lt b e).2; omega, fun b hb e => by simp only [Value.ownBlock, Option.some.injEq] at hb; have := (h.sw.lt b e).2; omega, fun q hq => absurd hq (Nat.not_lt_zero q)⟩
theorem AB.room {N : Nat} {w wx wy : World} {vK vW : Value} {VK VW MS : List Value} {ks xs : List (List Nat)} {n i gM cap : Nat} {P1 P2 : Nat → Int} {o : Obj} (h : AB N w wx vK vW (.slice (some ⟨gM, 0, none⟩) n cap) VK VW MS ks xs n i P1 P2) (hi : i < n) (hg : (wx.alloc o).grownBy wy (VK.getD i (.slice none 0 0)).ownBlock) : wy.cell? ⟨gM, i, none⟩ = some (MS.getD i (.slice none 0 0)) ∧ wy.frozen? ⟨gM, i, none⟩ = false := by
  have hf : Fr wx wy (fun k => (VK.getD i (.slice none 0 0)).ownBlock = some k) := (alloc_fr wx o _).grown hg (fun k _ e => e)
  obtain ⟨g, c, e, h1, h2⟩ := spine_cell8 (own_fr h.sm hf (fun k hk e => spine_ne8 h.sm (h.bb.k.own i (by rw [h.bb.klen]; exact hi)) k hk e)) hi
  cases e
  exact ⟨h1, h2⟩
/-- What apart appends and writes. -/
def p81 (q : Nat) : Int := (7 * (q : Int) + -3 + 1) % 256
def p82 (q : Nat) : Int := (7 * (q : Int) + -6 + 1) % 256

def mk38 (q k : Nat) : Nat := (7 * q + 3 * k + 1) % 256
theorem mk38_int (q k : Nat) : (7 * (q : Int) + 3 * (k : Int) + 1) % 256 = ((mk38 q k : Nat) : Int) := by unfold mk38; omega
structure Mk38 (ks xs : List (List Nat)) (j : Nat) : Prop where
  len : ∀ q, (ks.getD q []).length = (xs.getD q []).length
  new : ∀ q, q < j → ∀ k, k < (xs.getD q []).length → (ks.getD q []).getD k 0 = mk38 q k
theorem Mk38.next {ks ks' xs : List (List Nat)} {j : Nat} (h : Mk38 ks xs j) (he : ∀ q, q ≠ j → ks'.getD q [] = ks.getD q []) (hl : ∀ q, (ks'.getD q []).length = (xs.getD q []).length) (hn : ∀ q, q < (xs.getD j []).length → (ks'.getD j []).getD q 0 = mk38 j q) : Mk38 ks' xs (j + 1) := by
  refine ⟨hl, fun q hq k hk => ?_⟩
  rcases Nat.decEq q j with e | e
  · rw [he q e]
    exact h.new q (by omega) k hk
  · subst e
    exact hn k hk
/-- Behind a call that turns nothing old, every old cell reads as before. -/
theorem fr_rules8 {a w' : World} (h : Fr a w' (fun _ => False)) : ∀ b o, b < a.heap.size → w'.cell? ⟨b, o, none⟩ = a.cell? ⟨b, o, none⟩ := by
  have hb : Below a.heap.size a w' := h.below (Nat.le_refl _) (fun _ h => h.elim)
  exact fun b o h => hb.cell (p := ⟨b, o, none⟩) h

set_option maxRecDepth 100000 in
set_option maxHeartbeats 8000000 in
theorem apart_any8 {N : Nat} {wx : World} {aK aW : Option Addr} {cK cW n : Nat} {VK VW : List Value} {xs : List (List Nat)} (hB : BB N wx wx (.slice aK n cK) (.slice aW n cW) VK VW xs xs n) (hn : n ≤ 100) :
    Calls Try.prog 32 #[.slice aK n cK, .slice aW n cW] wx fun e w' => e = .returned (.bool true) ∧ ∃ ks, BB N wx w' (.slice aK n cK) (.slice aW n cW) VK VW ks xs n := by
  have HMK := bk_hid (fun W : World => run_make_row' (P := Try.prog) 49 24 (.slice none 0 0) 24 Try.underlying49 Try.info_sl8 rfl .i64 .i64 n (by omega) (by omega) W)
  have hmk := HMK.out wx
  have HA0 := bk_hid (AB.start (P1 := p81) (P2 := p82) hB hn)
  obtain ⟨k0, kinfo, kz0, kz1, kz2⟩ := info_parts Try.info5
  have hbase := hB.base
  clear hB
  go_enter Try.func32, Try.ntmps32
  go_wp2_with fail
  clear hmk HMK
  generalize wx.alloc (.cells (madeCells #[Value.slice none 0 0] n) 24) = wy at *
  generalize hgM : wx.heap.size = gM at *
  clear hgM
  go_loopg [6] n (fun g s6 wz => ∃ (i : Nat) (MS : List Value) (ks : List (List Nat)), s6 = .int .i64 (i : Int) ∧ i + g = n ∧ Hid (AB N wx wz (.slice aK n cK) (.slice aW n cW) (.slice (some ⟨gM, 0, none⟩) n n) VK VW MS ks xs n i p81 p82) ∧ Hid (∀ q, ks.getD q [] = xs.getD q []))
  case atStart => exact ⟨0, _, xs, rfl, by omega, HA0, fun _ => rfl⟩
  case round =>
    obtain ⟨i, MS, ks, rfl, hg, HA, HE⟩ := hrel
    clear HA0
    cases gk with
    | zero =>
      have t1 : ¬ (i : Int) < (n : Int) := by omega
      obtain rfl : i = n := by omega
      clear hg
      have HAA := HA
      go_wp2_with fail
      clear t1
      go_loopg [7] i (fun g s7 wz => ∃ p : Nat, s7 = .int .i64 (p : Int) ∧ p + g = i ∧ Hid (AB N wx wz (.slice aK i cK) (.slice aW i cW) (.slice (some ⟨gM, 0, none⟩) i i) VK VW MS ks xs i i p81 p82))
      case atStart => exact ⟨0, rfl, by omega, HA⟩
      case round =>
        clear HA HAA
        obtain ⟨p, rfl, hg, HA⟩ := hrel
        cases gk with
        | zero =>
          have t1 : ¬ (p : Int) < (i : Int) := by omega
          clear hg
          go_wp2_with fail
          clear t1
          have HMM : Hid (Mk38 ks xs 0) := ⟨HA.out.len, fun q hq => absurd hq (Nat.not_lt_zero q)⟩
          clear HE
          go_loopg [9] i (fun g s9 wz => ∃ (p : Nat) (ks : List (List Nat)), s9 = .int .i64 (p : Int) ∧ p + g = i ∧ Hid (AB N wx wz (.slice aK i cK) (.slice aW i cW) (.slice (some ⟨gM, 0, none⟩) i i) VK VW MS ks xs i i p81 p82) ∧ Hid (Mk38 ks xs p))
          case atStart => exact ⟨0, ks, rfl, by omega, HA, HMM⟩
          case round =>
            clear HA HMM
            obtain ⟨p, ks, rfl, hg, HA, HMM⟩ := hrel
            cases gk with
            | zero =>
              have t1 : ¬ (p : Int) < (i : Int) := by omega
              have HPI := bk_hid (show p = i by omega)
              clear hg
              go_wp2_with fail
              clear t1
              obtain ⟨W0, rfl⟩ : ∃ W0 : World, W0 = wr := ⟨_, rfl⟩
              go_loopg [11] i (fun g s11 wx => ∃ r : Nat, s11 = .int .i64 (r : Int) ∧ r + g = i ∧ wx = W0)
              case atStart => exact ⟨0, rfl, by omega, rfl⟩
              case round =>
                obtain ⟨r, rfl, hg, hwx⟩ := hrel
                subst hwx
                cases gk with
                | zero =>
                  have t1 : ¬ (r : Int) < (i : Int) := by omega
                  clear hg
                  go_wp2_with fail
                  go_ret
                  exact ⟨rfl, ks, HA.out.bb⟩
                | succ G6 =>
                  have hr : r < i := by omega
                  have t1 : (r : Int) < (i : Int) := by omega
                  have HG := bk_hid hg
                  clear hg
                  obtain ⟨gK, cK', e1, hcK, _⟩ := spine_cell8 HA.out.bb.sk (i := r) hr
                  simp only [Value.slice.injEq] at e1
                  obtain ⟨rfl, hnn1, rfl⟩ := e1
                  clear hnn1
                  obtain ⟨gM', cM', eM, hcM, hfM⟩ := spine_cell8 HA.out.sm hr
                  simp only [Value.slice.injEq, Option.some.injEq, Addr.mk.injEq, and_true, true_and] at eM
                  obtain ⟨rfl, rfl⟩ := eM
                  obtain ⟨g9, cap9, hM9, hm1, hm2⟩ := (HA.out.mo r hr).cells
                  have hoA := HA.out.bb.k.own r (by rw [HA.out.bb.klen]; exact hr)
                  obtain ⟨aA, cA, hA⟩ := own_nil_shape hoA
                  have hshort := HA.out.bb.short r
                  have hlr := HA.out.len r
                  rw [hA, hlr] at hcK
                  rw [hM9] at hcM
                  have HNEW := bk_hid (fun k hk => HMM.out.new r (by rw [HPI.out]; exact hr) k hk)
                  have HOA := bk_hid hoA
                  rw [hA] at HOA
                  have HLR := bk_hid hlr
                  clear hoA hA hM9 hlr hfM
                  unfold p81 at hm1
                  unfold p82 at hm2
                  generalize hX : xs.getD r [] = X at *
                  have HX := bk_hid hX
                  clear hX
                  go_wp2_with fail
                  clear hm1 hm2 hcM
                  obtain ⟨W1, rfl⟩ : ∃ W1 : World, W1 = wr := ⟨_, rfl⟩
                  go_loopg [13] X.length (fun g s13 wx => ∃ k : Nat, s13 = .int .i64 (k : Int) ∧ k + g = X.length ∧ wx = W1)
                  case atStart => exact ⟨0, rfl, by omega, rfl⟩
                  case round =>
                    obtain ⟨k, rfl, hg7, hwx⟩ := hrel
                    subst hwx
                    cases gk with
                    | zero =>
                      have t3 : ¬ (k : Int) < (X.length : Int) := by omega
                      clear hg7
                      go_wp2_with fail
                      go_roundg G6
                      case measure => omega
                      case rel => exact ⟨r + 1, by go_num, by have := HG.out; omega, rfl⟩
                    | succ g7 =>
                      have hk : k < X.length := by omega
                      have t3 : (k : Int) < (X.length : Int) := by omega
                      obtain ⟨gA, hgA⟩ := own_addr HOA.out (by rw [HLR.out]; omega)
                      subst hgA
                      have hcC := (own_cell HOA.out (g := gA) rfl k (by rw [HLR.out]; exact hk)).1
                      rw [HNEW.out k hk] at hcC
                      rw [← mk38_int] at hcC
                      have HG7 := bk_hid hg7
                      clear hg7
                      go_wp2_with fail
                      go_roundg g7
                      case measure => omega
                      case rel => exact ⟨k + 1, by go_num, by have := HG7.out; omega, rfl⟩
            | succ G2 =>
              have hp : p < i := by omega
              have t1 : (p : Int) < (i : Int) := by omega
              have HP := bk_hid hp
              have HG := bk_hid hg
              have hshort := HA.out.bb.short p
              clear hg
              go_wp2_with fail
              go_loopg [10] (xs.getD p []).length (fun g s10 wz => ∃ (k : Nat) (ks' : List (List Nat)), s10 = .int .i64 (k : Int) ∧ k + g = (xs.getD p []).length ∧ Hid (AB N wx wz (.slice aK i cK) (.slice aW i cW) (.slice (some ⟨gM, 0, none⟩) i i) VK VW MS ks' xs i i p81 p82) ∧ Hid (∀ q, q ≠ p → ks'.getD q [] = ks.getD q []) ∧ Hid (∀ q, q < k → (ks'.getD p []).getD q 0 = mk38 p q))
              case atStart => exact ⟨0, ks, rfl, by omega, HA, fun _ _ => rfl, fun q hq => absurd hq (Nat.not_lt_zero q)⟩
              case round =>
                obtain ⟨k, ks', rfl, hg3, HA3, HEQ, HNW⟩ := hrel
                obtain ⟨gK, cK', e1, hcK, _⟩ := spine_cell8 HA3.out.bb.sk (i := p) hp
                simp only [Value.slice.injEq] at e1
                obtain ⟨rfl, hnn1, rfl⟩ := e1
                clear hnn1
                have hoA := HA3.out.bb.k.own p (by rw [HA3.out.bb.klen]; exact hp)
                obtain ⟨aA, cA, hA⟩ := own_nil_shape hoA
                rw [hA, HA3.out.len p] at hcK
                cases gk with
                | zero =>
                  have t3 : ¬ (k : Int) < ((xs.getD p []).length : Int) := by omega
                  have HKL := bk_hid (show k = (xs.getD p []).length by omega)
                  clear hg3 hoA hA
                  generalize hX : xs.getD p [] = X at *
                  have HX := bk_hid hX
                  clear hX
                  go_wp2_with fail
                  go_roundg G2
                  case measure => omega
                  case rel => exact ⟨p + 1, ks', by go_num, by have := HG.out; omega, HA3, HMM.out.next HEQ.out (HA3.out.len) (fun q hq => HNW.out q (by have := HKL.out; rw [HX.out] at hq; omega))⟩
                | succ g3 =>
                  have hk : k < (xs.getD p []).length := by omega
                  have t3 : (k : Int) < ((xs.getD p []).length : Int) := by omega
                  have hb1 := hoA
                  rw [hA] at hb1
                  obtain ⟨gA, hgA⟩ := own_addr hb1 (by rw [HA3.out.len p]; omega)
                  subst hgA
                  obtain ⟨hcC, hfC⟩ := own_cell hoA (g := gA) (by rw [hA]; rfl) k (by rw [HA3.out.len p]; exact hk)
                  have HW3 := bk_hid (HA3.out.write HP.out (b := gA) (by rw [hA]; rfl) hk (mk38 p k))
                  have HG3 := bk_hid hg3
                  have HKX := bk_hid hk
                  clear hg3 hoA hA hb1 hk
                  generalize hX : xs.getD p [] = X at *
                  have HX := bk_hid hX
                  clear hX
                  go_wp2_with fail
                  go_roundg g3
                  case measure => omega
                  case rel =>
                    refine ⟨k + 1, _, by go_num, by have := HG3.out; omega, (by rw [mk38_int]; exact HW3), fun q hq => ?_, fun q hq => ?_⟩
                    · rw [getD_set _ _ _ _ _ (by rw [HA3.out.bb.klen]; exact HP.out), if_neg hq]
                      exact HEQ.out q hq
                    · rw [getD_set _ _ _ _ _ (by rw [HA3.out.bb.klen]; exact HP.out), if_pos rfl, getD_set _ _ _ _ _ (by rw [HA3.out.len p, HX.out]; exact HKX.out)]
                      split
                      · rename_i e
                        rw [e]
                      · exact HNW.out q (by omega)
        | succ G2 =>
          have hp : p < i := by omega
          have t1 : (p : Int) < (i : Int) := by omega
          obtain ⟨gK, cK', e1, hcK, _⟩ := spine_cell8 HA.out.bb.sk (i := p) hp
          simp only [Value.slice.injEq] at e1
          obtain ⟨rfl, hnn1, rfl⟩ := e1
          clear hnn1
          obtain ⟨gW, cW', e1, hcW, _⟩ := spine_cell8 HA.out.bb.sw (i := p) hp
          simp only [Value.slice.injEq] at e1
          obtain ⟨rfl, hnn1, rfl⟩ := e1
          clear hnn1
          have hoA := HA.out.bb.k.own p (by rw [HA.out.bb.klen]; exact hp)
          have hoB := HA.out.bb.u.own p (by rw [HA.out.bb.len]; exact hp)
          have hshort := HA.out.bb.short p
          rw [HE.out p] at hoA
          obtain ⟨aA, cA, hA⟩ := own_nil_shape hoA
          obtain ⟨aB, cB, hBv⟩ := own_nil_shape hoB
          rw [hA] at hcK hoA
          rw [hBv] at hcW hoB
          have HOA := bk_hid hoA
          have HOB := bk_hid hoB
          have HG := bk_hid hg
          clear hoA hoB hA hBv hg
          generalize xs.getD p [] = X at *
          go_wp2_with fail
          go_quiet (fail)
          go_wp2_with fail
          obtain ⟨W0, rfl⟩ : ∃ W0 : World, W0 = wr := ⟨_, rfl⟩
          have HCK := bk_hid hcK
          have HCW := bk_hid hcW
          clear hcK hcW
          go_loopg [8] X.length (fun g s8 wx => ∃ k : Nat, s8 = .int .i64 (k : Int) ∧ k + g = X.length ∧ Hid (Fr W0 wx (fun _ => False)))
          case atStart => exact ⟨0, rfl, by omega, (Fr.refl _ _).drewN _⟩
          case round =>
            obtain ⟨k, rfl, hg3, HF⟩ := hrel
            have hcK : wr.cell? ⟨gK, p, none⟩ = some (.slice aA X.length cA) := by rw [(fr_rules8 HF.out) gK p (World.block_lt_of_cell? W0 _ HCK.out)]; exact HCK.out
            have hcW : wr.cell? ⟨gW, p, none⟩ = some (.slice aB X.length cB) := by rw [(fr_rules8 HF.out) gW p (World.block_lt_of_cell? W0 _ HCW.out)]; exact HCW.out
            cases gk with
            | zero =>
              have t3 : ¬ (k : Int) < (X.length : Int) := by omega
              clear hg3
              go_wp2_with fail
              go_roundg G2
              case measure => omega
              case rel => exact ⟨p + 1, by go_num, by have := HG.out; omega, HA.out.step HF.out⟩
            | succ g3 =>
              have hk : k < X.length := by omega
              have t3 : (k : Int) < (X.length : Int) := by omega
              obtain ⟨gA, hgA⟩ := own_addr HOA.out (by omega)
              subst hgA
              obtain ⟨gB, hgB⟩ := own_addr HOB.out (by omega)
              subst hgB
              have hc1 := (own_cell (own_fr HOA.out HF.out (fun _ _ h => h)) (g := gA) rfl k hk).1
              have hc2 := (own_cell (own_fr HOB.out HF.out (fun _ _ h => h)) (g := gB) rfl k hk).1
              have HG3 := bk_hid hg3
              clear hg3
              generalize X.getD k 0 = y at *
              go_wp2_with fail
              go_quiet (fail)
              go_wp2_with fail
              go_roundg g3
              case measure => omega
              case rel => exact ⟨k + 1, by go_num, by have := HG3.out; omega, HF.out.trans ((Fr.refl _ _).drewN _)⟩
    | succ g =>
      have hi : i < n := by omega
      have t1 : (i : Int) < (n : Int) := by omega
      obtain ⟨gK, cK', e1, hcK, _⟩ := spine_cell8 HA.out.bb.sk (i := i) hi
      simp only [Value.slice.injEq] at e1
      obtain ⟨rfl, hnn1, rfl⟩ := e1
      clear hnn1
      have hoA := HA.out.bb.k.own i (by rw [HA.out.bb.klen]; exact hi)
      have hXe := HE.out i
      have hshort := HA.out.bb.short i
      rw [hXe] at hoA
      obtain ⟨aA, cA, hA⟩ := own_nil_shape hoA
      rw [hA] at hcK hoA
      have HAV := bk_hid hA
      have HOA := bk_hid hoA
      have HI := bk_hid hi
      have HG := bk_hid hg
      clear hoA hA hXe hg
      generalize hX : xs.getD i [] = X at *
      have HX := bk_hid hX
      clear hX
      have hsz : N ≤ wr.heap.size := Nat.le_trans HA.out.bb.base HA.out.bb.fr.size
      go_wp2_with (at_builtin; refine wpList_append_keep _ rfl _ _ 24 rfl N 5 k0 (.int .u8 0) 1 Try.underlying24 kinfo kz0 kz1 kz2 rfl _ _ _ rfl (own_fr HOA.out (alloc_fr wr _ (fun _ => False)) (fun _ _ h => h)) ⟨wr.heap.size, 0, none⟩ 2 2 [_, _] rfl rfl (two_new8 wr _ _ _) (fun x hx => by simp at hx; rcases hx with rfl | rfl <;> rfl) (by unfold maxLen; omega) (by omega) (by simp; omega) ?_; intro v' w3 hown3 hgrow3 hat3 hkeep3; have hg3 : (wr.alloc (.cells #[.int .u8 ((7 * (i : Int) + -3 + 1) % 256), .int .u8 ((7 * (i : Int) + -6 + 1) % 256)] 5)).grownBy w3 (VK.getD i (.slice none 0 0)).ownBlock := (by rw [HAV.out]; exact hgrow3); obtain ⟨rc, rf⟩ := HA.out.room HI.out hg3; obtain ⟨ao3, cap3, rfl⟩ := own_nil_shape hown3; have HPU := bk_hid (HA.out.push HI.out (by rw [HX.out]; exact hown3) hg3 (by rw [HAV.out]; exact hat3) (by rw [HAV.out, HX.out]; exact hkeep3) rfl); clear hown3 hgrow3 hat3 hkeep3 hg3 hcK)
      go_roundg g
      case measure => omega
      case rel =>
        refine ⟨i + 1, _, _, by go_num, by have := HG.out; omega, HPU, fun q => ?_⟩
        rw [getD_set _ _ _ _ _ (by rw [HA.out.bb.klen]; exact HI.out)]
        split
        · rename_i e
          rw [e]
        · exact HE.out q
end Go.Proofs.Ytmadlmbpgkifoab
