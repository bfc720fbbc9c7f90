/- The law PaneOwn: its walk. -/
import Derived.Test.YtfdkinghcalhfabPOwn1
import Derived.Deep.DeepCutAuto
namespace Go.Proofs.Ytfdkinghcalhfab
open Go.RowKit

/-- What stands ahead of the second loop: the books hold alike. -/
structure OB (w wx : World) (s d l : Int) (vK vW : Value) (VK VW : List Value) (ks xs : List (List Int)) (n : Nat) : Prop where
  o : O1 w wx s d l vK vW VK VW VK ks VW xs
  len : xs.length = n
  klen : ks.length = n
  short : ∀ i, (xs.getD i []).length ≤ 64
  fit : ∀ i, ∀ x ∈ xs.getD i [], fits x
theorem getD_three {α : Type} (l : List α) (a b c e : α) (P : α → Prop) (hl : ∀ i, P (l.getD i e)) (ha : P a) (hb : P b) (hc : P c) (he : P e) : ∀ i, P ((l ++ [a] ++ [b] ++ [c]).getD i e) := by
  intro i
  rw [getD_snoc, getD_snoc, getD_snoc]
  repeat' split
  all_goals (first | exact hl i | assumption)

theorem getD_three0 {α : Type} (l : List α) (a b c e : α) : (l ++ [a] ++ [b] ++ [c]).getD l.length e = a ∧ (l ++ [a] ++ [b] ++ [c]).getD (l.length + 1) e = b ∧ (l ++ [a] ++ [b] ++ [c]).getD (l.length + 2) e = c := by
  refine ⟨?_, ?_, ?_⟩
  · rw [getD_snoc, if_pos (by simp), getD_snoc, if_pos (by simp), getD_snoc, if_neg (by omega), if_pos rfl]
  · rw [getD_snoc, if_pos (by simp), getD_snoc, if_neg (by simp), if_pos (by simp)]
  · rw [getD_snoc, if_neg (by simp), if_pos (by simp)]
theorem openL_fits' {s l M : Int} {xs : List Int} (h : ∀ x ∈ xs, fits x) : ∀ x ∈ openL s l M xs, fits x := fun x hx => h x (List.mem_filter.1 hx).1
theorem own_three {w wx : World} {s d l : Int} {vK vW : Value} {VS WS VK VW : List Value} {ks xs : List (List Int)} {a b c : Value} {x y z : List Int} (h : O1 w wx s d l vK vW VS WS (VK ++ [a] ++ [b] ++ [c]) (ks ++ [x] ++ [y] ++ [z]) VW xs) (hl : VK.length = ks.length) :
    wx.ownsRow (w.heap.size + 1) 2 1 a x.length (iv x) ∧ wx.ownsRow (w.heap.size + 1) 2 1 b y.length (iv y) ∧ wx.ownsRow (w.heap.size + 1) 2 1 c z.length (iv z) := by
  obtain ⟨e1, e2, e3⟩ := getD_three0 VK a b c nilV
  obtain ⟨f1, f2, f3⟩ := getD_three0 ks x y z []
  have h1 := h.bk.k.own ks.length (by simp)
  have h2 := h.bk.k.own (ks.length + 1) (by simp)
  have h3 := h.bk.k.own (ks.length + 2) (by simp)
  rw [← hl, e1, hl, f1] at h1
  rw [← hl, e2, hl, f2] at h2
  rw [← hl, e3, hl, f3] at h3
  exact ⟨h1, h2, h3⟩

theorem OB.add3 {w wx wy : World} {s d l : Int} {vK vW vK' vW' : Value} {VK VW : List Value} {xs : List (List Int)} {n : Nat} (h : OB w wx s d l vK vW VK VW xs xs n) {a b c a' b' c' : Value} {x y z : List Int}
    (ho : O1 w wy s d l vK' vW' (VK ++ [a, b, c]) (VW ++ [a', b', c']) (VK ++ [a] ++ [b] ++ [c]) (xs ++ [x] ++ [y] ++ [z]) (VW ++ [a'] ++ [b'] ++ [c']) (xs ++ [x] ++ [y] ++ [z]))
    (hx : x.length ≤ 64) (hy : y.length ≤ 64) (hz : z.length ≤ 64) (fx : ∀ q ∈ x, fits q) (fy : ∀ q ∈ y, fits q) (fz : ∀ q ∈ z, fits q) : OB w wy s d l vK' vW' (VK ++ [a] ++ [b] ++ [c]) (VW ++ [a'] ++ [b'] ++ [c']) (xs ++ [x] ++ [y] ++ [z]) (xs ++ [x] ++ [y] ++ [z]) (n + 3) := by
  refine ⟨?_, by simp [h.len], by simp [h.len], getD_three xs x y z [] (fun x => x.length ≤ 64) h.short hx hy hz (by simp), getD_three xs x y z [] (fun x => ∀ y ∈ x, fits y) h.fit fx fy fz (by simp)⟩
  have e1 : VK ++ [a, b, c] = VK ++ [a] ++ [b] ++ [c] := by simp
  have e2 : VW ++ [a', b', c'] = VW ++ [a'] ++ [b'] ++ [c'] := by simp
  rw [e1, e2] at ho
  exact ho

theorem OB.step {w wx wy : World} {s d l : Int} {vK vW : Value} {VK VW : List Value} {ks xs : List (List Int)} {n : Nat} (h : OB w wx s d l vK vW VK VW ks xs n) (hf : Fr wx wy (fun _ => False)) : OB w wy s d l vK vW VK VW ks xs n := ⟨h.o.step hf, h.len, h.klen, h.short, h.fit⟩
theorem OB.drew {w wx : World} {s d l : Int} {vK vW : Value} {VK VW : List Value} {ks xs : List (List Int)} {n : Nat} (h : OB w wx s d l vK vW VK VW ks xs n) : OB w wx.drew s d l vK vW VK VW ks xs n := h.step (Fr.refl _ _).drew
theorem OB.alloc {w wx : World} {s d l : Int} {vK vW : Value} {VK VW : List Value} {ks xs : List (List Int)} {n : Nat} (h : OB w wx s d l vK vW VK VW ks xs n) (o : Obj) : OB w (wx.alloc o) s d l vK vW VK VW ks xs n := h.step (alloc_fr _ _ _)
/-- One kept row is turned. -/
theorem OB.turn {w wx wy : World} {s d l : Int} {vK vW : Value} {VK VW : List Value} {ks xs : List (List Int)} {n j : Nat} (h : OB w wx s d l vK vW VK VW ks xs n) (hj : j < n) {x : List Int} (hf : Fr wx wy (fun k => (VK.getD j nilV).ownBlock = some k)) (ho : wy.ownsRow (w.heap.size + 1) 2 1 (VK.getD j nilV) x.length (iv x)) : OB w wy s d l vK vW VK VW (ks.set j x) xs n := by
  have hjk : j < ks.length := by rw [h.klen]; exact hj
  have hb : ∀ k, (VK.getD j nilV).ownBlock = some k → w.heap.size + 1 ≤ k := fun k hk => ((h.o.bk.k.own j hjk).lt k hk).1
  exact ⟨⟨⟨h.o.vf.vw.fr hf (fun e => by have := hb _ e; omega), h.o.vf.fr.trans2 hf (fun i hi e => by have := hb i e; omega)⟩, own_fr h.o.sk hf (fun k hk e => spine_ne h.o.sk (h.o.bk.k.own j hjk) k hk e), own_fr h.o.sw hf (fun k hk e => spine_ne h.o.sw (h.o.bk.k.own j hjk) k hk e), h.o.sp, h.o.bk.turn hjk hf ho⟩, h.len, by rw [List.length_set]; exact h.klen, h.short, h.fit⟩
/-- What is written over a row. -/
def mkv (j k : Nat) : Int := -(1000 * (j : Int)) - (k : Int)
/-- The first j rows are written over, the others as they were told. -/
structure Mk2 (ks xs : List (List Int)) (j : Nat) : Prop where
  len : ∀ q, (ks.getD q []).length = (xs.getD q []).length
  old : ∀ q, j ≤ q → ks.getD q [] = xs.getD q []
  new : ∀ q, q < j → ∀ k, k < (xs.getD q []).length → (ks.getD q []).getD k 0 = mkv q k
theorem Mk2.next {ks xs : List (List Int)} {j : Nat} (h : Mk2 ks xs j) (hj : j < ks.length) {C : List Int} (hl : C.length = (xs.getD j []).length) (hc : ∀ k, k < C.length → C.getD k 0 = mkv j k) : Mk2 (ks.set j C) xs (j + 1) := by
  refine ⟨fun q => ?_, fun q hq => ?_, fun q hq k hk => ?_⟩
  · rw [getD_set _ _ _ _ _ hj]
    split
    · rw [hl, ‹q = j›]
    · exact h.len q
  · rw [getD_set _ _ _ _ _ hj, if_neg (by omega)]
    exact h.old q (by omega)
  · rw [getD_set _ _ _ _ _ hj]
    split
    · rename_i e
      subst e
      exact hc k (by omega)
    · exact h.new q (by omega) k hk

set_option maxRecDepth 100000 in
set_option maxHeartbeats 8000000 in
theorem paneOwn_walk (s d l : Int) (v : Value) (ts : List Int) (w : World) (hv : Is w v ts) : Calls Try.prog 5 #[.agg #[.int .i64 s, .int .i64 d, .int .i64 l], v] w fun e w' => e = .returned (.bool true) ∧ Fr w w' (fun _ => False) := by
  obtain ⟨ao, tcap, rfl, htl, _, _⟩ := id hv
  have HTS := hid hv
  clear hv
  by_cases h : OkV s d l
  · have HR := hid (fun W : World => right_ok h W)
    have HW := hid (fun (t : Int) (W : World) => within_any t W)
    have HV := hid h
    have HS := hid (fun (T : Int) (hT : Ti T) (W : World) => starts_ok (t := T) h hT W)
    have HO := hid (fun (T : Int) (hT : Ti T) (M : Int) (W : World) => open_ok (t := T) M h hT W)
    obtain ⟨i0, hinfo, hz0, hz1, hz2⟩ := info_parts Try.info_sl
    clear h
    go_enter Try.func5, Try.ntmps5
    go_wp2_with fail
    refine (HR.out _).mono ?_
    rintro e w1 ⟨rfl, hf1⟩
    have HB0 : Hid (OB w w1 s d l nilV nilV [] [] [] [] 0) := ⟨⟨(VF.new w s d l).step hf1, World.ownsRow_nil _ _ _ _, World.ownsRow_nil _ _ _ _, fun b h => by simp [nilV, Value.ownBlock] at h, ⟨KpI.nil _ _, KpI.nil _ _, fun i j h => by simp at h⟩⟩, rfl, rfl, fun i => by simp, fun i x hx => by simp at hx⟩
    clear hf1 HR
    go_wp2_with fail
    go_loopg [5, 6, 7] (min ts.length 20) (fun g s5 s6 s7 wx => ∃ (i : Nat) (VK VW : List Value) (xs : List (List Int)), s7 = .int .i64 (i : Int) ∧ i + g = min ts.length 20 ∧ Hid (OB w wx s d l s5 s6 VK VW xs xs (3 * i)))
    case atStart => exact ⟨0, [], [], [], rfl, by omega, HB0⟩
    case round =>
      obtain ⟨i, VK, VW, xs, rfl, hg, HB⟩ := hrel
      clear HB0
      cases gk with
      | zero =>
        go_upto_region 6 with fail
        go_cut [31] (fun s31 wx => s31 = .bool false ∧ wx = wr)
        case first =>
          by_cases t1 : (i : Int) < (ts.length : Int)
          · have t2 : ¬ (i : Int) < 20 := by omega
            go_wp2_with fail
            go_meet
            exact ⟨rfl, rfl⟩
          · go_wp2_with fail
            go_meet
            exact ⟨rfl, rfl⟩
        case rest =>
          obtain ⟨rfl, rfl⟩ := hcut
          have hn60 : 3 * i ≤ 60 := by omega
          have hVK : VK.length = 3 * i := by rw [HB.out.o.bk.k.vlen, HB.out.len]
          have hVW : VW.length = 3 * i := by rw [HB.out.o.bk.u.vlen, HB.out.len]
          obtain ⟨aK, cK, rfl⟩ := own_nil_shape HB.out.o.sk
          obtain ⟨aW, cW, rfl⟩ := own_nil_shape HB.out.o.sw
          have HM0 : Hid (Mk2 xs xs 0) := ⟨fun _ => rfl, fun _ _ => rfl, fun q hq => absurd hq (Nat.not_lt_zero q)⟩
          rw [hVK, hVW] at HB
          rw [hVK, hVW]
          have HVK := hid hVK
          have HVW := hid hVW
          clear hVK hVW
          generalize hn : 3 * i = n at *
          clear hg hn HS HO HW
          go_wp2_with fail
          go_loopg [15] n (fun g s15 wx => ∃ (j : Nat) (ks : List (List Int)), s15 = .int .i64 (j : Int) ∧ j + g = n ∧ Hid (OB w wx s d l (.slice aK n cK) (.slice aW n cW) VK VW ks xs n) ∧ Hid (Mk2 ks xs j))
          case atStart => exact ⟨0, xs, rfl, by omega, HB, HM0⟩
          case round =>
            clear HB HM0
            obtain ⟨j, ks, rfl, hg, HB, HM⟩ := hrel
            cases gk with
            | zero =>
              have t1 : ¬ (j : Int) < (n : Int) := by omega
              have HJ := hid (show j = n by omega)
              clear hg
              go_wp2_with fail
              clear t1
              go_loopg [18] n (fun g s18 wx => ∃ p : Nat, s18 = .int .i64 (p : Int) ∧ p + g = n ∧ Hid (OB w wx s d l (.slice aK n cK) (.slice aW n cW) VK VW ks xs n))
              case atStart => exact ⟨0, rfl, by omega, HB⟩
              case round =>
                clear HB
                obtain ⟨p, rfl, hg4, HB⟩ := hrel
                cases gk with
                | zero =>
                  have t1 : ¬ (p : Int) < (n : Int) := by omega
                  clear hg4
                  go_wp2_with fail
                  refine (head_any _).mono ?_
                  rintro e w13 ⟨rfl, hf13⟩
                  have HF13 := hid (HB.out.o.vf.fr.trans hf13)
                  clear hf13
                  go_wp2_with fail
                  go_ret
                  exact ⟨rfl, HF13.out⟩
                | succ G4 =>
                  have hp : p < n := by omega
                  have t1 : (p : Int) < (n : Int) := by omega
                  have hpk : p < ks.length := by rw [HB.out.klen]; exact hp
                  obtain ⟨gK, cK', e1, hcK⟩ := spine_cell HB.out.o.sk (i := p) (by rw [HVK.out]; exact hp)
                  simp only [Value.slice.injEq] at e1
                  obtain ⟨rfl, hnn1, rfl⟩ := e1
                  clear hnn1
                  have hoA := HB.out.o.bk.k.own p hpk
                  obtain ⟨aA, cA, hA⟩ := own_nil_shape hoA
                  rw [hA] at hcK hoA
                  have HOA := hid hoA
                  have HNEW := hid (fun k hk => HM.out.new p (by rw [HJ.out]; exact hp) k (by rw [← HM.out.len p]; exact hk))
                  have hsh : (ks.getD p []).length ≤ 64 := by rw [HM.out.len p]; exact HB.out.short p
                  have HG4 := hid hg4
                  clear hoA hA hg4 hpk
                  generalize ks.getD p [] = C at *
                  go_wp2_with fail
                  go_loopg [19] C.length (fun g s19 wx => ∃ k : Nat, s19 = .int .i64 (k : Int) ∧ k + g = C.length ∧ wx = wr)
                  case atStart => exact ⟨0, rfl, by omega, rfl⟩
                  case round =>
                    obtain ⟨k, rfl, hg5, rfl⟩ := hrel
                    cases gk with
                    | zero =>
                      have t3 : ¬ (k : Int) < (C.length : Int) := by omega
                      clear hg5
                      go_wp2_with fail
                      go_roundg G4
                      case measure => omega
                      case rel => exact ⟨p + 1, by go_num, by have := HG4.out; omega, HB⟩
                    | succ g5 =>
                      have hk : k < C.length := by omega
                      have t3 : (k : Int) < (C.length : Int) := by omega
                      obtain ⟨gA, hgA⟩ := own_addr HOA.out (by omega)
                      subst hgA
                      obtain ⟨hcC, hfC⟩ := own_cellI HOA.out (g := gA) rfl k hk
                      rw [HNEW.out k hk] at hcC
                      unfold mkv at hcC
                      have HG5 := hid hg5
                      clear hg5
                      go_wp2_with fail
                      go_roundg g5
                      case measure => omega
                      case rel => exact ⟨k + 1, by go_num, by have := HG5.out; omega, rfl⟩
            | succ G2 =>
              have hj : j < n := by omega
              have t1 : (j : Int) < (n : Int) := by omega
              have hjk : j < ks.length := by rw [HB.out.klen]; exact hj
              have hjx : j < xs.length := by rw [HB.out.len]; exact hj
              obtain ⟨gK, cK', e1, hcK⟩ := spine_cell HB.out.o.sk (i := j) (by rw [HVK.out]; exact hj)
              obtain ⟨gW, cW', e2, hcW⟩ := spine_cell HB.out.o.sw (i := j) (by rw [HVW.out]; exact hj)
              simp only [Value.slice.injEq] at e1 e2
              obtain ⟨rfl, hnn1, rfl⟩ := e1
              obtain ⟨rfl, hnn2, rfl⟩ := e2
              clear hnn1 hnn2
              have hoA := HB.out.o.bk.k.own j hjk
              have hoB := HB.out.o.bk.u.own j hjx
              have hlen := HM.out.len j
              have hold := HM.out.old j (Nat.le_refl _)
              have hshort := HB.out.short j
              have HC := hid (fun (W : World) (h : OB w W s d l (.slice (some ⟨gK, 0, none⟩) n cK) (.slice (some ⟨gW, 0, none⟩) n cW) VK VW ks xs n) => (show W.cell? ⟨gK, j, none⟩ = some (VK.getD j nilV) ∧ W.cell? ⟨gW, j, none⟩ = some (VW.getD j nilV) ∧ Is W (VK.getD j nilV) (xs.getD j []) ∧ Is W (VW.getD j nilV) (xs.getD j []) from by
                obtain ⟨g1, c1, e1, h1⟩ := spine_cell h.o.sk (i := j) (by rw [HVK.out]; exact hj)
                obtain ⟨g2, c2, e2, h2⟩ := spine_cell h.o.sw (i := j) (by rw [HVW.out]; exact hj)
                simp only [Value.slice.injEq] at e1 e2
                obtain ⟨e1, _⟩ := e1
                obtain ⟨e2, _⟩ := e2
                cases e1
                cases e2
                have hoA := h.o.bk.k.own j hjk
                rw [hold] at hoA
                exact ⟨h1, h2, own_is hoA (h.fit j) (by omega), own_is (h.o.bk.u.own j hjx) (h.fit j) (by omega)⟩))
              have HHJ := hid hj
              have HG := hid hg
              have HJK := hid hjk
              rw [hold] at hoA
              obtain ⟨aA, cA, hA⟩ := own_nil_shape hoA
              obtain ⟨aB, cB, hBv⟩ := own_nil_shape hoB
              have HA := hid hA
              have HOLD := hid hold
              rw [hA] at HC
              rw [hBv] at HC
              clear hoA hoB hlen hold hcK hcW hA hBv hg hjk hjx
              generalize hX : xs.getD j [] = X at *
              have HX := hid hX
              clear hX
              have HC1 := hid (fun (W : World) (ks' : List (List Int)) (h : OB w W s d l (.slice (some ⟨gK, 0, none⟩) n cK) (.slice (some ⟨gW, 0, none⟩) n cW) VK VW ks' xs n) => (show W.cell? ⟨gK, j, none⟩ = some (.slice aA X.length cA) from by
                obtain ⟨g1, c1, e1, h1⟩ := spine_cell h.o.sk (i := j) (by rw [HVK.out]; exact hj)
                simp only [Value.slice.injEq] at e1
                obtain ⟨e1, _⟩ := e1
                cases e1
                rw [HA.out] at h1
                exact h1))
              obtain ⟨k0, kinfo, kz0, kz1, kz2⟩ := info_parts Try.info_i64
              go_wp2_with fail
              first
                | go_region_held3 (fun W' => Hid (OB w W' s d l (.slice (some ⟨gK, 0, none⟩) n cK) (.slice (some ⟨gW, 0, none⟩) n cW) VK VW ks xs n) ∧ W'.cell? ⟨gK, j, none⟩ = some (.slice aA X.length cA) ∧ W'.cell? ⟨gW, j, none⟩ = some (.slice aB X.length cB))
                    ((refine (fun h => ⟨h, (HC.out _ h).1, (HC.out _ h).2.1⟩ : OB w _ s d l (.slice (some ⟨gK, 0, none⟩) n cK) (.slice (some ⟨gW, 0, none⟩) n cW) VK VW ks xs n → _) ?_; repeat (first | exact HB.out | apply OB.drew | apply OB.alloc)))
                    ((go_at_call 16; refine (same_true _ _ X _ (HC.out _ (by repeat (first | exact HB.out | apply OB.drew | apply OB.alloc))).2.2.1 (HC.out _ (by repeat (first | exact HB.out | apply OB.drew | apply OB.alloc))).2.2.2).mono ?_; rintro e v1 ⟨rfl, hf⟩; have HB := hid (OB.step (by repeat (first | exact HB.out | apply OB.drew | apply OB.alloc)) hf); clear hf))
                | fail
              have HOA := hid (show v1.ownsRow (w.heap.size + 1) 2 1 (.slice aA X.length cA) X.length (iv X) from by
                have h1 := HB.out.o.bk.k.own j HJK.out
                rw [HOLD.out, HA.out] at h1
                exact h1)
              have hsz1 := HB.out.o.size
              go_wp2_with (at_builtin; refine wpList_append_keep _ rfl _ _ 27 rfl (w.heap.size + 1) 2 k0 (.int .i64 0) 8 Try.underlying27 kinfo kz0 kz1 kz2 rfl _ _ _ rfl (own_fr HOA.out (alloc_fr v1 _ (fun _ => False)) (fun _ _ h => h)) ⟨v1.heap.size, 0, none⟩ 3 3 [_, _, _] rfl rfl (three_new v1 _ _ _ _) (fun x hx => by simp at hx; rcases hx with rfl | rfl | rfl <;> rfl) (by unfold maxLen; omega) (by omega) (by simp; omega) ?_; intro v' w3 hown3 hgrow3 hat3 hkeep3; have HB3 := hid (HB.out.turn (j := j) HHJ.out (x := X) (by rw [HA.out]; exact (alloc_fr v1 _ _).grown hgrow3 (fun k _ e => e)) (by rw [HA.out]; exact hkeep3)); have hc3 := HC1.out _ _ HB3.out; obtain ⟨ao3, cap3, rfl⟩ := own_nil_shape hown3; clear hown3 hgrow3 hat3 hkeep3 HB)
              clear hc3
              go_loopg [17] X.length (fun g s17 wx => ∃ (k : Nat) (C : List Int), s17 = .int .i64 (k : Int) ∧ k + g = X.length ∧ C.length = X.length ∧ Hid (OB w wx s d l (.slice (some ⟨gK, 0, none⟩) n cK) (.slice (some ⟨gW, 0, none⟩) n cW) VK VW (ks.set j C) xs n) ∧ Hid (∀ q, q < k → C.getD q 0 = mkv j q))
              case atStart => exact ⟨0, X, rfl, by omega, rfl, HB3, fun q hq => absurd hq (Nat.not_lt_zero q)⟩
              case round =>
                obtain ⟨k, C, rfl, hg3, hCl, HBC, HMC⟩ := hrel
                clear HB3
                have hc3 := HC1.out _ _ HBC.out
                cases gk with
                | zero =>
                  have t3 : ¬ (k : Int) < (X.length : Int) := by omega
                  have HK := hid (show k = X.length by omega)
                  have HCL := hid hCl
                  clear hg3 hCl
                  go_wp2_with fail
                  go_roundg G2
                  case measure => omega
                  case rel => exact ⟨j + 1, ks.set j C, by go_num, by have := HG.out; omega, HBC, HM.out.next HJK.out (by rw [HX.out]; exact HCL.out) (fun q hq => HMC.out q (by have := HK.out; have := HCL.out; omega))⟩
                | succ g3 =>
                  have hk : k < X.length := by omega
                  have t3 : (k : Int) < (X.length : Int) := by omega
                  have hoC := HBC.out.o.bk.k.own j (by rw [List.length_set]; exact HJK.out)
                  rw [getD_set _ _ _ _ _ HJK.out, if_pos rfl, HA.out] at hoC
                  obtain ⟨gA, hgA⟩ := own_addr hoC (by omega)
                  subst hgA
                  obtain ⟨hcC, hfC⟩ := own_cellI hoC (g := gA) rfl k (by omega)
                  have HSET := hid (own_setI hoC (g := gA) rfl k (mkv j k))
                  have HCL := hid hCl
                  have HG3 := hid hg3
                  clear hoC hCl hg3
                  go_wp2_with fail
                  go_roundg g3
                  case measure => omega
                  case rel =>
                    refine ⟨k + 1, C.set k (mkv j k), by go_num, by have := HG3.out; omega, by rw [List.length_set]; exact HCL.out, ?_, fun q hq => ?_⟩
                    · have h1 := HBC.out.turn (j := j) HHJ.out (wy := wr.setCell ⟨gA, k, none⟩ (.int .i64 (mkv j k))) (x := C.set k (mkv j k)) (by rw [HA.out]; exact (Fr.refl wr (fun k => (Value.slice (some ⟨gA, 0, none⟩) X.length cA).ownBlock = some k)).setCell (p := ⟨gA, k, none⟩) (fun _ => rfl) _) (by rw [HA.out]; have h2 := HSET.out; rw [List.length_set, HCL.out] at h2 ⊢; exact h2)
                      rw [List.set_set] at h1
                      exact h1
                    · rw [getD_set _ _ _ _ _ (by rw [HCL.out]; have := HG3.out; omega)]
                      split
                      · rename_i e
                        rw [e]
                      · exact HMC.out q (by omega)
      | succ g =>
        have t1 : (i : Int) < (ts.length : Int) := by omega
        have t2 : (i : Int) < 20 := by omega
        have hi : i < ts.length := by omega
        have hi20 : i < 20 := by omega
        have HG := hid hg
        clear hg
        obtain ⟨a2, cap2, e, _, _, hck⟩ := HTS.out.fr HB.out.o.vf.fr
        obtain ⟨tb, toff, e2, hck2⟩ := hck (by intro e; subst e; simp at hi)
        cases e
        cases e2
        have hcell := hck2 i hi
        generalize ts.getD i 0 = t at *
        clear hck hck2
        obtain ⟨hT1, hT2⟩ := within_bd t
        obtain ⟨c0, c1, c2⟩ := HB.out.o.vf.vw.cells
        have hlt := HB.out.o.vf.vw.lt
        go_wp2_with fail
        refine (HW.out _ _).mono ?_
        rintro e w2 ⟨rfl, hw2⟩
        subst hw2
        generalize t.tmod 576460752303423488 = T at *
        have hTi : Ti T := by unfold Ti; omega
        have HTi := hid hTi
        have HL := hid (startsL_short (t := T) HV.out)
        have HFT := hid (startsL_fits HV.out hTi)
        clear hTi
        go_wp2_with fail
        refine (HS.out T HTi.out _).mono ?_
        rintro e w3 ⟨b1, rfl, hb1, hr1, hf3⟩
        have HO3 := hid (HB.out.o.keep hf3 (starts_own hb1 hr1 HL.out))
        clear hb1 hr1 hf3 c0 c1 c2 hlt hcell
        obtain ⟨c0, c1, c2⟩ := HO3.out.vf.vw.cells
        have hlt := HO3.out.vf.vw.lt
        go_wp2_with fail
        refine (HO.out T HTi.out _ _).mono ?_
        rintro e w4 ⟨v2, rfl, hr2⟩
        have hw2 := open_own hr2 HL.out
        obtain ⟨ho2, hs2⟩ := hw2
        have HO4 := hid (HO3.out.keep hr2.fr ho2)
        have HS2 := hid hs2
        clear hr2 ho2 hs2 c0 c1 c2 hlt
        obtain ⟨c0, c1, c2⟩ := HO4.out.vf.vw.cells
        have hlt := HO4.out.vf.vw.lt
        go_wp2_with fail
        refine (HO.out T HTi.out _ _).mono ?_
        rintro e w5 ⟨v3, rfl, hr3⟩
        have hw3 := open_own hr3 HL.out
        obtain ⟨ho3, hs3⟩ := hw3
        have HO5 := hid (HO4.out.keep hr3.fr ho3)
        have HS3 := hid hs3
        clear hr3 ho3 hs3 c0 c1 c2 hlt
        obtain ⟨A2, m2, cp2, rfl⟩ := HS2.out
        obtain ⟨A3, m3, cp3, rfl⟩ := HS3.out
        have hVK : VK.length = xs.length := HB.out.o.bk.k.vlen
        have hVW : VW.length = xs.length := HB.out.o.bk.u.vlen
        have hxl := HB.out.len
        have hsz5 := HO5.out.size
        have HO2 := hid (openL_fits' (s := s) (M := -4611686018427387904) (l := l) HFT.out)
        have HO2b := hid (openL_fits' (s := s) (M := T + 1) (l := l) HFT.out)
        have HL2 := hid (Nat.le_trans (openL_len s l (-4611686018427387904) (startsL s d T)) HL.out)
        have HL3 := hid (Nat.le_trans (openL_len s l (T + 1) (startsL s d T)) HL.out)
        generalize hx1 : startsL s d T = X1 at *
        generalize hx2 : openL s l (-4611686018427387904) X1 = X2 at *
        generalize hx3 : openL s l (T + 1) X1 = X3 at *
        clear hx1 hx2 hx3
        go_wp2_with (at_builtin; refine wpList_append_keep _ rfl _ _ 36 rfl (w.heap.size + 1) 27 i0 (.slice none 0 0) 24 Try.underlying36 hinfo hz0 hz1 hz2 rfl _ _ _ rfl (own_fr HO5.out.sk (alloc_fr w5 _ (fun _ => False)) (fun _ _ h => h)) ⟨w5.heap.size, 0, none⟩ 3 3 [_, _, _] rfl rfl (three_new w5 _ _ _ _) (fun x hx => by simp at hx; rcases hx with rfl | rfl | rfl <;> rfl) (by unfold maxLen; omega) (by omega) (by simp; omega) ?_; intro v' w6 hown6 hgrow6 hat6 _; have HO6 := hid (HO5.out.growK _ hown6 hgrow6 hat6); clear hown6 hgrow6 hat6)
        obtain ⟨ow1, ow2, ow3⟩ := own_three HO6.out hVK
        have HI1 := hid (copied_any _ X1 w6 (own_is ow1 HFT.out (by have := HL.out; omega)) ⟨_, _, _, rfl⟩ HL.out)
        have HI2 := hid (own_is ow2 HO2.out (by have := HL2.out; omega))
        have HI3 := hid (own_is ow3 HO2b.out (by have := HL3.out; omega))
        clear ow1 ow2 ow3
        refine HI1.out.mono ?_
        rintro e w7 ⟨u1, rfl, hu1, hf7⟩
        have HO7 := hid (HO6.out.want hf7 hu1)
        have HC2 := hid (copied_any _ X2 w7 (HI2.out.fr hf7) ⟨_, _, _, rfl⟩ HL2.out)
        have HI3b := hid (HI3.out.fr hf7)
        have HS1u := hid (own_nil_shape hu1)
        clear hu1 hf7 HI1 HI2 HI3
        go_wp2_with fail
        refine HC2.out.mono ?_
        rintro e w8 ⟨u2, rfl, hu2, hf8⟩
        have HO8 := hid (HO7.out.want hf8 hu2)
        have HC3 := hid (copied_any _ X3 w8 (HI3b.out.fr hf8) ⟨_, _, _, rfl⟩ HL3.out)
        have HS2u := hid (own_nil_shape hu2)
        clear hu2 hf8 HC2 HI3b
        go_wp2_with fail
        refine HC3.out.mono ?_
        rintro e w9 ⟨u3, rfl, hu3, hf9⟩
        have HO9 := hid (HO8.out.want hf9 hu3)
        have hS3u := own_nil_shape hu3
        obtain ⟨p3, q3, rfl⟩ := hS3u
        obtain ⟨p2, q2, rfl⟩ := HS2u.out
        obtain ⟨p1, q1, rfl⟩ := HS1u.out
        have hsz9 := HO9.out.size
        clear hu3 hf9 HC3
        go_wp2_with (at_builtin; refine wpList_append_keep _ rfl _ _ 36 rfl (w.heap.size + 1) 27 i0 (.slice none 0 0) 24 Try.underlying36 hinfo hz0 hz1 hz2 rfl _ _ _ rfl (own_fr HO9.out.sw (alloc_fr w9 _ (fun _ => False)) (fun _ _ h => h)) ⟨w9.heap.size, 0, none⟩ 3 3 [_, _, _] rfl rfl (three_new w9 _ _ _ _) (fun x hx => by simp at hx; rcases hx with rfl | rfl | rfl <;> rfl) (by unfold maxLen; omega) (by omega) (by simp; omega) ?_; intro v'' w10 hown10 hgrow10 hat10 _; have HOA := hid (HO9.out.growW _ hown10 hgrow10 hat10); clear hown10 hgrow10 hat10)
        go_roundg g
        case measure => omega
        case rel =>
          exact ⟨i + 1, _, _, _, by go_num, by have := HG.out; omega, HB.out.add3 HOA.out HL.out HL2.out HL3.out HFT.out HO2.out HO2b.out⟩
  · have HR := hid (fun W : World => right_bad h W)
    clear h
    go_enter Try.func5, Try.ntmps5
    go_wp2_with fail
    refine (HR.out _).mono ?_
    rintro e w1 ⟨rfl, hf1⟩
    have HF1 := hid ((alloc_fr w _ _).trans hf1)
    clear hf1
    go_wp2_with fail
    refine (head_any _).mono ?_
    rintro e w3 ⟨rfl, hf3⟩
    have HF3 := hid (HF1.out.trans hf3)
    clear hf3
    go_wp2_with fail
    go_ret
    exact ⟨rfl, HF3.out⟩
end Go.Proofs.Ytfdkinghcalhfab
