/- The law's apart: its walk. -/
import Derived.Test.YtfdkinghcalhfabPAns1
import Derived.Laws.OwnMore
namespace Go.Proofs.Ytfdkinghcalhfab
open Go.RowKit

theorem two_new (w : World) (x y : Value) (e : TypeId) : ∀ (j : Nat) (u : Value), [x, y][j]? = some u → (w.alloc (.cells #[x, y] e)).cell? ((⟨w.heap.size, 0, none⟩ : Addr).add j) = some u := by
  intro j u hj
  have h := heap_last w (.cells #[x, y] e) _ rfl
  rw [Addr.add_lit, cell_of_row _ _ _ _ _ _ h, Nat.zero_add]
  match j, hj with
  | 0, hj => exact hj
  | 1, hj => exact hj
theorem spine_at {wx : World} {base g n cap i : Nat} {VS : List Value} (h : wx.ownsRow base 27 1 (.slice (some ⟨g, 0, none⟩) n cap) n VS) (hi : i < n) : wx.cell? ⟨g, i, none⟩ = some (VS.getD i nilV) ∧ wx.frozen? ⟨g, i, none⟩ = false := by
  have hl : VS.length = n := by simpa using h.1
  have h0 := h.cells (g := g) rfl i (VS.getD i nilV) (by simp [List.getD, hl, hi])
  rw [Addr.add_lit, Nat.zero_add] at h0
  refine ⟨h0, ?_⟩
  rcases h.2 with ⟨e, _⟩ | ⟨g', cap', cur, e, _, hh, _⟩
  · simp at e
  · simp only [Value.slice.injEq, Option.some.injEq, Addr.mk.injEq, and_true, true_and] at e
    obtain ⟨rfl, _⟩ := e
    simp [World.frozen?, hh]
theorem made_own (w : World) (base n : Nat) (hb : base ≤ w.heap.size) (hn : n ≤ 60) : (w.alloc (.cells (madeCells #[Value.slice none 0 0] n) 27)).ownsRow base 27 1 (.slice (some ⟨w.heap.size, 0, none⟩) n n) n (List.replicate n (.slice none 0 0)) := by
  refine ⟨by simp, Or.inr ⟨w.heap.size, n, madeCells #[Value.slice none 0 0] n, rfl, hb, heap_last _ _ _ rfl, Nat.le_refl _, by unfold maxLen; omega, by rw [size_madeCells, Nat.mul_one], ?_⟩⟩
  rw [toList_madeCells_one]
  simp
theorem AI.start {w wx : World} {s d l : Int} {vK vW : Value} {VK VW : List Value} {xs : List (List Int)} {n : Nat} (h : OB w wx s d l vK vW VK VW xs xs n) (hn : n ≤ 60) : AI w (wx.alloc (.cells (madeCells #[Value.slice none 0 0] n) 27)) s d l vK vW (.slice (some ⟨wx.heap.size, 0, none⟩) n n) VK VW (List.replicate n (.slice none 0 0)) xs xs n 0 :=
  ⟨h.alloc _, fun _ => rfl, made_own wx _ n h.o.size hn, fun b hb e => by simp only [Value.ownBlock, Option.some.injEq] at hb; have := (h.o.sk.lt b e).2; omega, fun b hb e => by simp only [Value.ownBlock, Option.some.injEq] at hb; have := (h.o.sw.lt b e).2; omega, fun q hq => absurd hq (Nat.not_lt_zero q)⟩

theorem AI.room {w wx wy : World} {s d l : Int} {vK vW : Value} {VK VW MS : List Value} {ks xs : List (List Int)} {n i gM cap : Nat} {o : Obj} (h : AI w wx s d l vK vW (.slice (some ⟨gM, 0, none⟩) n cap) VK VW MS ks xs n i) (hi : i < n) (hg : (wx.alloc o).grownBy wy (VK.getD i nilV).ownBlock) : wy.cell? ⟨gM, i, none⟩ = some (MS.getD i nilV) ∧ wy.frozen? ⟨gM, i, none⟩ = false := by
  have hf : Fr wx wy (fun k => (VK.getD i nilV).ownBlock = some k) := (alloc_fr wx o _).grown hg (fun k _ e => e)
  exact spine_at (own_fr h.sm hf (fun k hk e => spine_ne h.sm (h.ob.o.bk.k.own i (by rw [h.ob.klen]; exact hi)) k hk e)) hi

/-- What apart writes over a row. -/
def mk3 (q k : Nat) : Int := -(1000 * (q : Int)) - (k : Int) - 1
structure Mk3 (ks xs : List (List Int)) (j : Nat) : Prop where
  len : ∀ q, (ks.getD q []).length = (xs.getD q []).length
  new : ∀ q, q < j → ∀ k, k < (xs.getD q []).length → (ks.getD q []).getD k 0 = mk3 q k
theorem Mk3.next {ks ks' xs : List (List Int)} {j : Nat} (h : Mk3 ks xs j) (he : ∀ q, q ≠ j → ks'.getD q [] = ks.getD q []) (hl : ∀ q, (ks'.getD q []).length = (xs.getD q []).length) (hn : ∀ q, q < (xs.getD j []).length → (ks'.getD j []).getD q 0 = mk3 j q) : Mk3 ks' xs (j + 1) := by
  refine ⟨hl, fun q hq k hk => ?_⟩
  rcases Nat.decEq q j with e | e
  · rw [he q e]
    exact h.new q (by omega) k hk
  · subst e
    exact hn k hk

set_option maxRecDepth 100000 in
set_option maxHeartbeats 8000000 in
theorem apart_any {w wx : World} {s d l : Int} {aK aW : Option Addr} {cK cW n : Nat} {VK VW : List Value} {xs : List (List Int)} (hB : OB w wx s d l (.slice aK n cK) (.slice aW n cW) VK VW xs xs n) (hVK : VK.length = n) (hVW : VW.length = n) (hn : n ≤ 60) :
    Calls Try.prog 18 #[.slice aK n cK, .slice aW n cW] wx fun e w' => e = .returned (.bool true) ∧ ∃ ks, OB w w' s d l (.slice aK n cK) (.slice aW n cW) VK VW ks xs n := by
  have HMK := hid (fun W : World => run_make_row' (P := Try.prog) 36 27 (.slice none 0 0) 24 Try.underlying36 Try.info_sl rfl .i64 .i64 n (by omega) (by omega) W)
  have hmk := HMK.out wx
  have HA0 := hid (AI.start hB hn)
  have HVK := hid hVK
  have HVW := hid hVW
  obtain ⟨k0, kinfo, kz0, kz1, kz2⟩ := info_parts Try.info_i64
  have hgM := hB.o.size
  clear hB hVK hVW
  go_enter Try.func18, Try.ntmps18
  go_wp2_with fail
  clear hmk HMK
  generalize wx.alloc (.cells (madeCells #[Value.slice none 0 0] n) 27) = wy at *
  generalize wx.heap.size = gM at *
  go_loopg [6] n (fun g s6 wx => ∃ (i : Nat) (MS : List Value) (ks : List (List Int)), s6 = .int .i64 (i : Int) ∧ i + g = n ∧ Hid (AI w wx s d l (.slice aK n cK) (.slice aW n cW) (.slice (some ⟨gM, 0, none⟩) n n) VK VW MS ks xs n i) ∧ Hid (∀ q, ks.getD q [] = xs.getD q []))
  case atStart => exact ⟨0, _, xs, rfl, by omega, HA0, fun _ => rfl⟩
  case round =>
    obtain ⟨i, MS, ks, rfl, hg, HA, HE⟩ := hrel
    clear HA0
    cases gk with
    | zero =>
      have t1 : ¬ (i : Int) < (n : Int) := by omega
      obtain rfl : i = n := by omega
      clear hg
      have HAA := HA
      go_wp2_with fail
      clear t1
      go_loopg [7] i (fun g s7 wx => ∃ p : Nat, s7 = .int .i64 (p : Int) ∧ p + g = i ∧ Hid (AI w wx s d l (.slice aK i cK) (.slice aW i cW) (.slice (some ⟨gM, 0, none⟩) i i) VK VW MS ks xs i i))
      case atStart => exact ⟨0, rfl, by omega, HA⟩
      case round =>
        clear HA HAA
        obtain ⟨p, rfl, hg, HA⟩ := hrel
        cases gk with
        | zero =>
          have t1 : ¬ (p : Int) < (i : Int) := by omega
          clear hg
          go_wp2_with fail
          clear t1
          have HMM : Hid (Mk3 ks xs 0) := ⟨HA.out.len, fun q hq => absurd hq (Nat.not_lt_zero q)⟩
          clear HE
          go_loopg [9] i (fun g s9 wx => ∃ (p : Nat) (ks : List (List Int)), s9 = .int .i64 (p : Int) ∧ p + g = i ∧ Hid (AI w wx s d l (.slice aK i cK) (.slice aW i cW) (.slice (some ⟨gM, 0, none⟩) i i) VK VW MS ks xs i i) ∧ Hid (Mk3 ks xs p))
          case atStart => exact ⟨0, ks, rfl, by omega, HA, HMM⟩
          case round =>
            clear HA HMM
            obtain ⟨p, ks, rfl, hg, HA, HMM⟩ := hrel
            cases gk with
            | zero =>
              have t1 : ¬ (p : Int) < (i : Int) := by omega
              have HPI := hid (show p = i by omega)
              clear hg
              go_wp2_with fail
              clear t1
              obtain ⟨W0, rfl⟩ : ∃ W0 : World, W0 = wr := ⟨_, rfl⟩
              go_loopg [11] i (fun g s11 wx => ∃ r : Nat, s11 = .int .i64 (r : Int) ∧ r + g = i ∧ wx = W0)
              case atStart => exact ⟨0, rfl, by omega, rfl⟩
              case round =>
                obtain ⟨r, rfl, hg, hwx⟩ := hrel
                subst hwx
                cases gk with
                | zero =>
                  have t1 : ¬ (r : Int) < (i : Int) := by omega
                  clear hg
                  go_wp2_with fail
                  go_ret
                  exact ⟨rfl, ks, HA.out.ob⟩
                | succ G6 =>
                  have hr : r < i := by omega
                  have t1 : (r : Int) < (i : Int) := by omega
                  have HG := hid hg
                  clear hg
                  obtain ⟨gK, cK', e1, hcK⟩ := spine_cell HA.out.ob.o.sk (i := r) (by rw [HVK.out]; exact hr)
                  simp only [Value.slice.injEq] at e1
                  obtain ⟨rfl, hnn1, rfl⟩ := e1
                  clear hnn1
                  obtain ⟨hcM, hfM⟩ := spine_at HA.out.sm hr
                  obtain ⟨g9, cap9, hM9, hm1, hm2⟩ := (HA.out.mo r hr).cells
                  have hoA := HA.out.ob.o.bk.k.own r (by rw [HA.out.ob.klen]; exact hr)
                  obtain ⟨aA, cA, hA⟩ := own_nil_shape hoA
                  have hshort := HA.out.ob.short r
                  have hlr := HA.out.len r
                  rw [hA, hlr] at hcK
                  rw [hM9] at hcM
                  have HNEW := hid (fun k hk => HMM.out.new r (by rw [HPI.out]; exact hr) k hk)
                  have HOA := hid hoA
                  rw [hA] at HOA
                  have HLR := hid hlr
                  clear hoA hA hM9 hlr hfM
                  unfold mp1 at hm1
                  unfold mp2 at hm2
                  generalize hX : xs.getD r [] = X at *
                  have HX := hid hX
                  clear hX
                  go_wp2_with fail
                  clear hm1 hm2 hcM
                  obtain ⟨W1, rfl⟩ : ∃ W1 : World, W1 = wr := ⟨_, rfl⟩
                  go_loopg [13] X.length (fun g s13 wx => ∃ k : Nat, s13 = .int .i64 (k : Int) ∧ k + g = X.length ∧ wx = W1)
                  case atStart => exact ⟨0, rfl, by omega, rfl⟩
                  case round =>
                    obtain ⟨k, rfl, hg7, hwx⟩ := hrel
                    subst hwx
                    cases gk with
                    | zero =>
                      have t3 : ¬ (k : Int) < (X.length : Int) := by omega
                      clear hg7
                      go_wp2_with fail
                      go_roundg G6
                      case measure => omega
                      case rel => exact ⟨r + 1, by go_num, by have := HG.out; omega, rfl⟩
                    | succ g7 =>
                      have hk : k < X.length := by omega
                      have t3 : (k : Int) < (X.length : Int) := by omega
                      obtain ⟨gA, hgA⟩ := own_addr HOA.out (by rw [HLR.out]; omega)
                      subst hgA
                      have hcC := (own_cellI HOA.out (g := gA) rfl k (by rw [HLR.out]; exact hk)).1
                      rw [HNEW.out k hk] at hcC
                      unfold mk3 at hcC
                      have HG7 := hid hg7
                      clear hg7
                      go_wp2_with fail
                      go_roundg g7
                      case measure => omega
                      case rel => exact ⟨k + 1, by go_num, by have := HG7.out; omega, rfl⟩
            | succ G2 =>
              have hp : p < i := by omega
              have t1 : (p : Int) < (i : Int) := by omega
              have HP := hid hp
              have HG := hid hg
              have hshort := HA.out.ob.short p
              clear hg
              go_wp2_with fail
              go_loopg [10] (xs.getD p []).length (fun g s10 wx => ∃ (k : Nat) (ks' : List (List Int)), s10 = .int .i64 (k : Int) ∧ k + g = (xs.getD p []).length ∧ Hid (AI w wx s d l (.slice aK i cK) (.slice aW i cW) (.slice (some ⟨gM, 0, none⟩) i i) VK VW MS ks' xs i i) ∧ Hid (∀ q, q ≠ p → ks'.getD q [] = ks.getD q []) ∧ Hid (∀ q, q < k → (ks'.getD p []).getD q 0 = mk3 p q))
              case atStart => exact ⟨0, ks, rfl, by omega, HA, fun _ _ => rfl, fun q hq => absurd hq (Nat.not_lt_zero q)⟩
              case round =>
                obtain ⟨k, ks', rfl, hg3, HA3, HEQ, HNW⟩ := hrel
                obtain ⟨gK, cK', e1, hcK⟩ := spine_cell HA3.out.ob.o.sk (i := p) (by rw [HVK.out]; exact hp)
                simp only [Value.slice.injEq] at e1
                obtain ⟨rfl, hnn1, rfl⟩ := e1
                clear hnn1
                have hoA := HA3.out.ob.o.bk.k.own p (by rw [HA3.out.ob.klen]; exact hp)
                obtain ⟨aA, cA, hA⟩ := own_nil_shape hoA
                rw [hA, HA3.out.len p] at hcK
                cases gk with
                | zero =>
                  have t3 : ¬ (k : Int) < ((xs.getD p []).length : Int) := by omega
                  have HKL := hid (show k = (xs.getD p []).length by omega)
                  clear hg3 hoA hA
                  generalize hX : xs.getD p [] = X at *
                  have HX := hid hX
                  clear hX
                  go_wp2_with fail
                  go_roundg G2
                  case measure => omega
                  case rel => exact ⟨p + 1, ks', by go_num, by have := HG.out; omega, HA3, HMM.out.next HEQ.out (HA3.out.len) (fun q hq => HNW.out q (by have := HKL.out; rw [HX.out] at hq; omega))⟩
                | succ g3 =>
                  have hk : k < (xs.getD p []).length := by omega
                  have t3 : (k : Int) < ((xs.getD p []).length : Int) := by omega
                  have hb1 := hoA
                  rw [hA] at hb1
                  obtain ⟨gA, hgA⟩ := own_addr hb1 (by rw [HA3.out.len p]; omega)
                  subst hgA
                  obtain ⟨hcC, hfC⟩ := own_cellI hoA (g := gA) (by rw [hA]; rfl) k (by rw [HA3.out.len p]; exact hk)
                  have HW3 := hid (HA3.out.write HP.out (b := gA) (by rw [hA]; rfl) hk (mk3 p k))
                  have HG3 := hid hg3
                  have HKX := hid hk
                  clear hg3 hoA hA hb1 hk
                  generalize hX : xs.getD p [] = X at *
                  have HX := hid hX
                  clear hX
                  go_wp2_with fail
                  go_roundg g3
                  case measure => omega
                  case rel =>
                    refine ⟨k + 1, _, by go_num, by have := HG3.out; omega, HW3, fun q hq => ?_, fun q hq => ?_⟩
                    · rw [getD_set _ _ _ _ _ (by rw [HA3.out.ob.klen]; exact HP.out), if_neg hq]
                      exact HEQ.out q hq
                    · rw [getD_set _ _ _ _ _ (by rw [HA3.out.ob.klen]; exact HP.out), if_pos rfl, getD_set _ _ _ _ _ (by rw [HA3.out.len p, HX.out]; exact HKX.out)]
                      split
                      · rename_i e
                        rw [e]
                      · exact HNW.out q (by omega)
        | succ G2 =>
          have hp : p < i := by omega
          have t1 : (p : Int) < (i : Int) := by omega
          obtain ⟨gK, cK', e1, hcK⟩ := spine_cell HA.out.ob.o.sk (i := p) (by rw [HVK.out]; exact hp)
          simp only [Value.slice.injEq] at e1
          obtain ⟨rfl, hnn1, rfl⟩ := e1
          clear hnn1
          obtain ⟨gW, cW', e1, hcW⟩ := spine_cell HA.out.ob.o.sw (i := p) (by rw [HVW.out]; exact hp)
          simp only [Value.slice.injEq] at e1
          obtain ⟨rfl, hnn1, rfl⟩ := e1
          clear hnn1
          have hoA := HA.out.ob.o.bk.k.own p (by rw [HA.out.ob.klen]; exact hp)
          have hoB := HA.out.ob.o.bk.u.own p (by rw [HA.out.ob.len]; exact hp)
          have hshort := HA.out.ob.short p
          rw [HE.out p] at hoA
          obtain ⟨aA, cA, hA⟩ := own_nil_shape hoA
          obtain ⟨aB, cB, hBv⟩ := own_nil_shape hoB
          rw [hA] at hcK hoA
          rw [hBv] at hcW hoB
          have HOA := hid hoA
          have HOB := hid hoB
          have HG := hid hg
          clear hoA hoB hA hBv hg
          generalize xs.getD p [] = X at *
          go_wp2_with fail
          go_quiet (fail)
          go_wp2_with fail
          obtain ⟨W0, rfl⟩ : ∃ W0 : World, W0 = wr := ⟨_, rfl⟩
          have HCK := hid hcK
          have HCW := hid hcW
          clear hcK hcW
          go_loopg [8] X.length (fun g s8 wx => ∃ k : Nat, s8 = .int .i64 (k : Int) ∧ k + g = X.length ∧ Hid (Fr W0 wx (fun _ => False)))
          case atStart => exact ⟨0, rfl, by omega, (Fr.refl _ _).drewN _⟩
          case round =>
            obtain ⟨k, rfl, hg3, HF⟩ := hrel
            have hcK : wr.cell? ⟨gK, p, none⟩ = some (.slice aA X.length cA) := by rw [(fr_rules HF.out).1 gK p (World.block_lt_of_cell? W0 _ HCK.out)]; exact HCK.out
            have hcW : wr.cell? ⟨gW, p, none⟩ = some (.slice aB X.length cB) := by rw [(fr_rules HF.out).1 gW p (World.block_lt_of_cell? W0 _ HCW.out)]; exact HCW.out
            cases gk with
            | zero =>
              have t3 : ¬ (k : Int) < (X.length : Int) := by omega
              clear hg3
              go_wp2_with fail
              go_roundg G2
              case measure => omega
              case rel => exact ⟨p + 1, by go_num, by have := HG.out; omega, HA.out.step HF.out⟩
            | succ g3 =>
              have hk : k < X.length := by omega
              have t3 : (k : Int) < (X.length : Int) := by omega
              obtain ⟨gA, hgA⟩ := own_addr HOA.out (by omega)
              subst hgA
              obtain ⟨gB, hgB⟩ := own_addr HOB.out (by omega)
              subst hgB
              have hc1 := (own_cellI (own_fr HOA.out HF.out (fun _ _ h => h)) (g := gA) rfl k hk).1
              have hc2 := (own_cellI (own_fr HOB.out HF.out (fun _ _ h => h)) (g := gB) rfl k hk).1
              have HG3 := hid hg3
              clear hg3
              generalize X.getD k 0 = y at *
              go_wp2_with fail
              go_quiet (fail)
              go_wp2_with fail
              go_roundg g3
              case measure => omega
              case rel => exact ⟨k + 1, by go_num, by have := HG3.out; omega, HF.out.trans ((Fr.refl _ _).drewN _)⟩
    | succ g =>
      have hi : i < n := by omega
      have t1 : (i : Int) < (n : Int) := by omega
      obtain ⟨gK, cK', e1, hcK⟩ := spine_cell HA.out.ob.o.sk (i := i) (by rw [HVK.out]; exact hi)
      simp only [Value.slice.injEq] at e1
      obtain ⟨rfl, hnn1, rfl⟩ := e1
      clear hnn1
      obtain ⟨hcM, hfM⟩ := spine_at HA.out.sm hi
      have hoA := HA.out.ob.o.bk.k.own i (by rw [HA.out.ob.klen]; exact hi)
      have hXe := HE.out i
      have hshort := HA.out.ob.short i
      rw [hXe] at hoA
      obtain ⟨aA, cA, hA⟩ := own_nil_shape hoA
      rw [hA] at hcK hoA
      have HAV := hid hA
      have HOA := hid hoA
      have HI := hid hi
      have HG := hid hg
      have HXE := hid hXe
      clear hoA hA hXe hg
      generalize hX : xs.getD i [] = X at *
      have HX := hid hX
      clear hX
      have hsz := HA.out.ob.o.size
      go_wp2_with (at_builtin; refine wpList_append_keep _ rfl _ _ 27 rfl (w.heap.size + 1) 2 k0 (.int .i64 0) 8 Try.underlying27 kinfo kz0 kz1 kz2 rfl _ _ _ rfl (own_fr HOA.out (alloc_fr wr _ (fun _ => False)) (fun _ _ h => h)) ⟨wr.heap.size, 0, none⟩ 2 2 [_, _] rfl rfl (two_new wr _ _ _) (fun x hx => by simp at hx; rcases hx with rfl | rfl <;> rfl) (by unfold maxLen; omega) (by omega) (by simp; omega) ?_; intro v' w3 hown3 hgrow3 hat3 hkeep3; have hg3 : (wr.alloc (.cells #[.int .i64 (-(1000 * (i : Int))), .int .i64 (-(1000 * (i : Int)) + 2 - 1)] 2)).grownBy w3 (VK.getD i nilV).ownBlock := (by rw [HAV.out]; exact hgrow3); obtain ⟨rc, rf⟩ := HA.out.room HI.out hg3; obtain ⟨ao3, cap3, rfl⟩ := own_nil_shape hown3; have HPU := hid (HA.out.push HI.out (by rw [HXE.out, HX.out]) (by rw [HX.out]; exact hown3) hg3 (by rw [HAV.out]; exact hat3) (by rw [HAV.out, HX.out]; exact hkeep3) rfl); clear hown3 hgrow3 hat3 hkeep3 hg3 hcM hfM hcK)
      go_roundg g
      case measure => omega
      case rel =>
        refine ⟨i + 1, _, _, by go_num, by have := HG.out; omega, HPU, fun q => ?_⟩
        rw [getD_set _ _ _ _ _ (by rw [HA.out.ob.klen]; exact HI.out)]
        split
        · rename_i e
          rw [e]
        · exact HE.out q
end Go.Proofs.Ytfdkinghcalhfab
