/- WireMany returns true for every two ints and every bool; no conditions. -/
import Derived.Test.YtfoapnmljnonlabHead
import Derived.Test.YtfoapnmljnonlabMany
import Derived.ProofKit
import Derived.OpenShut
import Derived.Below
import Derived.WalkSmall
import Derived.Deep.DeepCutAuto
namespace Go.Proofs.Ytfoapnmljnonlab
open Go.ChangeShapes Go.WideShapes Go.ChangeAt Go.RowKit

theorem manyOwn : ownKnob Try.prog.godebug = none := by kernel_rfl

theorem lit_take (w : World) (i : Nat) (hi : i < 65536) : Bs (w.alloc (.cells #[.int .u8 ((i : Int) % 256), .int .u8 ((i : Int) / 256)] 5)) (.slice (some ⟨w.heap.size, 0, none⟩) (1 + i % 2) 2) (bodyM i) := by
  have e0 : ((i : Int) / 256) = ((i / 256 % 256 : Nat) : Int) := by omega
  have e1 : ((i : Int) % 256) = ((i % 256 : Nat) : Int) := by omega
  rw [e0, e1]
  have h := lit_own w [i % 256, i / 256 % 256] #[.int .u8 ((i % 256 : Nat) : Int), .int .u8 ((i / 256 % 256 : Nat) : Int)] 5 2 rfl rfl (by omega)
  refine Or.inr ⟨⟨w.heap.size, 0, none⟩, 2, by rw [bodyM_length], fun j u hu => ?_⟩
  refine h.cells (g := w.heap.size) rfl j u ?_
  rw [bodyM] at hu
  have e : by8 ([i % 256, i / 256 % 256].take (1 + i % 2)) = (by8 [i % 256, i / 256 % 256]).take (1 + i % 2) := by simp [by8]
  rw [e, List.getElem?_take] at hu
  split at hu
  · exact hu
  · cases hu

/-- A slice's length, for a measure. -/
def lenV : Value → Nat
  | .slice _ l _ => l
  | _ => 0

/-- What is known between two calls: t were told, c are to come. -/
structure MInv (w : World) (N n : Nat) (al : Value) (R : List Nat) (t c : Nat) (fed : List Nat) (told : Nat) (v : Value) (wx : World) : Prop where
  sum : t + c = n
  stream : fed.drop told ++ R = tl t c
  small : fed.length + R.length ≤ 120000
  fz : Fz wx N N v 2 fed told 0
  ts : Ts wx N al R
  r8 : ∀ j, R.getD j 0 < 256
  below : Below w.heap.size w wx
  size : N < wx.heap.size
  ge : w.heap.size ≤ N

theorem MInv.sets {w : World} {N n : Nat} {al : Value} {R : List Nat} {t c : Nat} {fed : List Nat} {told : Nat} {v : Value} {wx : World} (h : MInv w N n al R t c fed told v wx) (k : Nat) (hk : k = N ∨ v.ownBlock = some k) : N ≤ k := by
  rcases hk with hk | hk
  · omega
  · exact (h.fz.own.lt k hk).1

theorem MInv.drewN {w : World} {N n : Nat} {al : Value} {R : List Nat} {t c : Nat} {fed : List Nat} {told : Nat} {v : Value} {wx : World} (h : MInv w N n al R t c fed told v wx) (q : Nat) : MInv w N n al R t c fed told v (wx.drewN q) :=
  ⟨h.sum, h.stream, h.small, h.fz.drewN q, h.ts.drewN q, h.r8, below_drewN h.below q, h.size, h.ge⟩

/-- Behind a Feed of the first K bytes. -/
theorem MInv.fed {w : World} {N n : Nat} {al al' : Value} {R : List Nat} {t c : Nat} {fed : List Nat} {told : Nat} {v v' : Value} {wx w5 : World} (h : MInv w N n al R t c fed told v wx) (K : Nat) (hz : Fz w5 N N v' 2 (fed ++ R.take K) told 0) (hf : Fr wx w5 (fun k => k = N ∨ v.ownBlock = some k)) (ht : Ts wx N al' (R.drop K)) :
    MInv w N n al' (R.drop K) t c (fed ++ R.take K) told v' w5 := by
  have hs := hf.size
  refine ⟨h.sum, ?_, ?_, hz, ht.fr hf h.sets, getD_drop_lt h.r8 K, h.below.trans (hf.below h.below.size (fun k hk => by have := h.sets k hk; have := h.ge; omega)), by have := h.size; omega, h.ge⟩
  · rw [List.drop_append_of_le_length h.fz.le, List.append_assoc, List.take_append_drop]
    exact h.stream
  · have := h.small
    simp
    omega

/-- Behind a Next that told a frame. -/
theorem MInv.told {w : World} {N n : Nat} {al : Value} {R : List Nat} {t c : Nat} {fed fed' : List Nat} {told told' : Nat} {v v' : Value} {wx w6 : World} (h : MInv w N n al R t (c + 1) fed told v wx) (hz : Fz w6 N N v' 2 fed' told' 0) (hf : Fr wx w6 (fun k => k = N ∨ v.ownBlock = some k)) (hs : fed'.drop told' ++ R = tl (t + 1) c) (hl : fed'.length ≤ fed.length) :
    MInv w N n al R (t + 1) c fed' told' v' w6 := by
  have hsz := hf.size
  refine ⟨by have := h.sum; omega, hs, by have := h.small; omega, hz, h.ts.fr hf h.sets, h.r8, h.below.trans (hf.below h.below.size (fun k hk => by have := h.sets k hk; have := h.ge; omega)), by have := h.size; omega, h.ge⟩

theorem bodyM_even (t : Nat) (h : t % 2 = 0) : bodyM t = [t % 256] := by simp [bodyM, h]
theorem bodyM_odd (t : Nat) (h : t % 2 = 1) : bodyM t = [t % 256, t / 256 % 256] := by simp [bodyM, h]

set_option maxHeartbeats 2000000 in
set_option maxRecDepth 100000 in
theorem many_walk (a b : Int) (late : Bool) (w : World) : Calls Try.prog 7 #[.int .i64 a, .int .i64 b, .bool late] w fun e w' => e = .returned (.bool true) ∧ Below w.heap.size w w' := by
  obtain ⟨i0, hi, hz0, hz1, hz2⟩ := info_parts Try.info5
  obtain ⟨n, hn, hnl⟩ : ∃ n : Nat, a % 20000 = (n : Int) ∧ n < 20000 := ⟨(a % 20000).toNat, by omega, by omega⟩
  obtain ⟨m, hm, hml⟩ : ∃ m : Nat, b % 5000 = (m : Int) ∧ m < 5000 := ⟨(b % 5000).toNat, by omega, by omega⟩
  have HN := hid hn
  have HM := hid hm
  clear hn hm
  go_enter Try.func7, Try.ntmps7
  go_wp2_with fail
  refine (round_any a 20000 w (by decide) (by decide)).mono ?_
  rintro e w1 ⟨rfl, hw1⟩
  have hw1 := hw1.symm
  subst hw1
  rw [HN.out]
  go_wp2_with fail
  refine (round_any b 5000 w (by decide) (by decide)).mono ?_
  rintro e w1 ⟨rfl, hw1⟩
  have hw1 := hw1.symm
  subst hw1
  rw [HM.out]
  go_wp2_with fail
  clear hw1
  go_loopw [7, 8] (fun al i wr => ∃ k : Nat, k ≤ n ∧ i = .int .i64 (k : Int) ∧ Hid (wr.ownsRow w.heap.size 5 1 al (tl 0 k).length (by8 (tl 0 k))) ∧ Hid (Below w.heap.size w wr)) (fun _ i _ => n - (intOf i).toNat)
  case atStart => exact ⟨0, Nat.zero_le _, rfl, World.ownsRow_nil _ _ _ _, Below.refl _ _⟩
  case round =>
    obtain ⟨k, hk, rfl, HO, HB⟩ := hrel
    obtain ⟨ao, cap, rfl⟩ := own_nil_shape HO.out
    have htl := tl_length 0 k
    by_cases hlt : k < n
    · have hlt' : (k : Int) < (n : Int) := by omega
      have HLT := hid (lit_take wr k (by omega))
      have hbl := bodyM_length k
      go_wp2_with fail
      refine (frame_any _ (bodyM k) _ HLT.out (by omega)).mono ?_
      rintro e w2 ⟨v2, hf2, hp2⟩
      rcases hp2 with ⟨_, _, rfl, ho2⟩ | ⟨hx, _, _⟩
      · have HF2 := hid ((alloc_fr wr _ (fun _ => False)).trans hf2)
        obtain ⟨ao2, cap2, rfl⟩ := own_nil_shape ho2
        have HBS2 := hid (own_bs ho2)
        have ho1 := own_fr HO.out HF2.out (fun _ _ h => h)
        have hsz2 := HF2.out.size
        have hszw := HB.out.size
        have hfl := frameB_length (bodyM k)
        obtain ⟨a2, rfl, hcells⟩ := HBS2.out.addr (by omega)
        have HC2 := hid hcells
        have hfl2 : (frameB (bodyM k)).length ≤ 6 := by omega
        clear hf2 ho2 hcells HBS2 HLT hfl hbl
        go_wp2_with (at_builtin; go_must (refine wpList_append_own_at _ rfl (.tmp 41) (.tmp 42) 24 rfl w.heap.size 5 i0 (.int .u8 0) 1 1 Try.underlying24 hi hz0 hz1 hz2 rfl (by decide) _ _ _ rfl ho1 a2 (frameB (bodyM k)).length cap2 (by8 (frameB (bodyM k))) rfl (by rw [by8_length, Nat.mul_one]) HC2.out (by8_one _) (by unfold maxLen; omega) (by omega) (by omega) ?_))
        intro v3 w3 hown3 hgrow3 _ _
        have HO3 : Hid (w3.ownsRow w.heap.size 5 1 v3 (tl 0 (k + 1)).length (by8 (tl 0 (k + 1)))) := by
          show w3.ownsRow w.heap.size 5 1 v3 (tl 0 (k + 1)).length (by8 (tl 0 (k + 1)))
          rw [tl_snoc, List.length_append, by8_append, Nat.zero_add]
          exact hown3
        have HB3 := hid ((HB.out.trans (HF2.out.below hszw (fun _ h => h.elim))).grown hgrow3 (by omega) (fun k h => (ho1.lt k h).1))
        obtain ⟨ao3, cap3, rfl⟩ := own_nil_shape hown3
        clear hown3 hgrow3 ho1 HC2
        go_wp2
        exact ⟨⟨k + 1, by omega, by go_num, HO3, HB3⟩, by simp [intOf]; omega⟩
      · exact absurd ⟨by omega, by omega⟩ hx
    · obtain rfl : k = n := by omega
      go_wp2_with fail
      refine (new_ok 2 wr (by omega) (by omega)).mono ?_
      rintro e w4 ⟨rfl, hz4, hf4, hl4⟩
      have HZ4 := hid hz4
      have HT4 := hid ((Ts.ofOwn HO.out (Nat.le_refl _)).fr hf4 (fun _ h => h.elim))
      have HB4 := hid (HB.out.trans (hf4.below HB.out.size (fun _ h => h.elim)))
      have hszw := HB.out.size
      have hl64 : (tl 0 k).length ≤ 120000 := by omega
      clear hz4 hf4 HO HB
      generalize wr.heap.size = N at *
      go_wp2_with fail
      go_loopw [7, 13] (fun al t wx => ∃ (t' c : Nat) (R fed : List Nat) (told : Nat) (v : Value), t = .int .i64 (t' : Int) ∧ Hid (MInv w N k al R t' c fed told v wx) ∧ (R = [] → c = 0)) (fun al _ _ => lenV al)
      case atStart => exact ⟨0, k, tl 0 k, [], 0, _, rfl, ⟨by omega, rfl, by simp; omega, HZ4.out, HT4.out, tl_lt 0 k, HB4.out, hl4, hszw⟩, fun h => tl_nil 0 k h⟩
      case round =>
        obtain ⟨t, c, R, fed, told, v, rfl, HI, hRc⟩ := hrel
        obtain ⟨ao, cap, rfl, hRcap, hcell⟩ := HI.out.ts
        have hRl := HI.out.small
        have htc := HI.out.sum
        by_cases hR0 : R = []
        · subst hR0
          obtain rfl : c = 0 := hRc rfl
          obtain rfl : t = k := by omega
          have hdr : fed.drop told = [] := by have := HI.out.stream; rw [List.append_nil] at this; exact this
          have hh : heldN fed told 0 = 0 := by
            have := congrArg List.length hdr
            simp at this
            simp [heldN]
            omega
          have HH := hid hh
          clear hh hdr hcell hRc
          simp only [List.length_nil]
          go_wp2_with (first
            | (go_at_call 28; refine (held_any _ _ v 2 fed told 0 _ HI.out.fz).mono ?_; rintro e w6 ⟨rfl, n6, rfl⟩; rw [HH.out]; have HB6 := hid (below_drewN HI.out.below n6))
            | (go_at_call 21; refine (head_any _).mono ?_; rintro e w7 ⟨rfl, hb7⟩; have HB7 := hid (HB6.out.trans (hb7.mono HB6.out.size)); clear hb7))
          go_ret
          exact ⟨rfl, HB7.out⟩
        · obtain ⟨g, off, rfl, hgN, _⟩ := hcell hR0
          have hpos : 0 < R.length := List.length_pos_iff.2 hR0
          have hpos' : (0 : Int) < (R.length : Int) := by omega
          clear hcell
          go_upto_if 60 with fail
          go_cut [14] (fun s14 wx => wx = wr ∧ ∃ K : Nat, s14 = .int .i64 (K : Int) ∧ 1 ≤ K ∧ K ≤ R.length)
          case first =>
            by_cases hm0 : m = 0
            · have hm1 : ¬ (0 : Int) < (m : Int) := by omega
              clear hm0
              go_wp2
              go_meet
              exact ⟨rfl, R.length, rfl, by omega, by omega⟩
            · have hm1 : (0 : Int) < (m : Int) := by omega
              by_cases hmin : R.length ≤ 100 + m
              · have hmin2 : (R.length : Int) ≤ 100 + (m : Int) := by omega
                go_wp2
                go_meet
                exact ⟨rfl, R.length, rfl, by omega, by omega⟩
              · have hmin2 : 100 + (m : Int) < (R.length : Int) := by omega
                go_wp2
                go_meet
                exact ⟨rfl, 100 + m, by go_num, by omega, by omega⟩
          case rest =>
            obtain ⟨rfl, K, rfl, hK1, hK2⟩ := hcut
            have hK3 : (K : Int) ≤ (cap : Int) := by omega
            have hK4 : (K : Int) ≤ (R.length : Int) := by omega
            go_wp2_with fail
            refine (feed_any N N v 2 fed told 0 _ (R.take K) _ HI.out.fz (HI.out.ts.take K (by omega) hR0) (by have := HI.out.size; omega) (by simp; omega) (getD_take_lt HI.out.r8 K)).mono ?_
            rintro e w5 ⟨rfl, v5, hz5, hf5, _⟩
            rw [if_pos rfl] at hz5
            have HZ5 := hid hz5
            have HF5 := hid hf5
            clear hz5 hf5
            go_upto_region 18 with fail
            go_cut [7] (fun s7 wx => wx = w5 ∧ ∃ ao' cap' l', s7 = .slice ao' l' cap' ∧ l' = R.length - K ∧ Hid (Ts wc N s7 (R.drop K)))
            case first =>
              by_cases hcap : cap = K
              · have hRK : R.length - K = 0 := by omega
                have HD : Hid (R.drop K = []) := List.drop_eq_nil_of_le (by omega)
                have hcl : cap - K = 0 := by omega
                go_wp2
                go_meet
                exact ⟨rfl, _, _, _, rfl, by omega, by rw [HD.out]; exact Ts.nil _ _ _ _⟩
              · by_cases hKR : K = R.length
                · have HD : Hid (R.drop K = []) := List.drop_eq_nil_of_le (by omega)
                  have hRK : R.length - K = 0 := by omega
                  have hKK := hid hKR
                  clear hKR
                  go_wp2
                  go_meet
                  exact ⟨rfl, _, _, _, rfl, by omega, by rw [HD.out]; exact Ts.nil _ _ _ _⟩
                · have HD := hid (HI.out.ts.drop K (by omega))
                  go_wp2
                  go_meet
                  exact ⟨rfl, _, _, _, rfl, rfl, HD.out⟩
            case rest =>
              obtain ⟨rfl, ao', cap', l', rfl, hl', HT5⟩ := hcut
              have HI5 := hid (HI.out.fed K HZ5.out HF5.out HT5.out)
              have hrl : (R.drop K).length = l' := by simp; omega
              have HRL := hid hrl
              have hless : l' < R.length := by omega
              obtain ⟨R', hR'⟩ : ∃ R', R' = R.drop K := ⟨_, rfl⟩
              rw [← hR'] at HI5 HRL
              clear hrl hR' HI HZ5 HF5 HT5 hl'
              go_wp2_with fail
              go_loopw [13] (fun tt wx => ∃ (t' c' : Nat) (fed' : List Nat) (told' : Nat) (v' : Value), tt = .int .i64 (t' : Int) ∧ Hid (MInv w N k (.slice ao' l' cap') R' t' c' fed' told' v' wx)) (fun tt _ => k - (intOf tt).toNat)
              case atStart => exact ⟨t, c, _, told, v5, rfl, HI5⟩
              case round =>
                obtain ⟨t2, c2, fed2, told2, v2, rfl, HJ⟩ := hrel
                have hsum2 := HJ.out.sum
                by_cases hcond : late = true ∧ l' ≠ 0
                · obtain ⟨rfl, hne⟩ := hcond
                  have hne' : ((l' : Int) == 0) = false := by simp; omega
                  go_wp2_with fail
                  exact ⟨⟨t2, c2, R', fed2, told2, v2, rfl, HJ, fun h => by have e := HRL.out; rw [h] at e; simp at e; omega⟩, by simp [lenV]; omega⟩
                · have hlate : late = false ∨ (late = true ∧ l' = 0) := by
                    cases late
                    · exact Or.inl rfl
                    · exact Or.inr ⟨rfl, by simpa using hcond⟩
                  clear hcond
                  rcases hlate with rfl | ⟨rfl, hzero⟩
                  · cases c2 with
                    | zero =>
                      have hnil : fed2.drop told2 = [] ∧ R' = [] := List.append_eq_nil_iff.1 HJ.out.stream
                      have HNL := hid hnil.1
                      clear hnil
                      go_wp2_with fail
                      refine (next_none N N v2 2 fed2 told2 _ HJ.out.fz HNL.out).mono ?_
                      rintro e w6 ⟨rfl, n6, rfl⟩
                      unfold noFrame
                      have HJ6 := hid (HJ.out.drewN n6)
                      go_wp2
                      exact ⟨⟨t2, 0, R', fed2, told2, v2, rfl, HJ6, fun _ => rfl⟩, by simp [lenV]; omega⟩
                    | succ c3 =>
                      have hstr : fed2.drop told2 ++ R' = frameB (bodyM t2) ++ tl (t2 + 1) c3 := HJ.out.stream
                      have HST := hid hstr
                      clear hstr
                      have hb1 : 1 ≤ (bodyM t2).length := by rw [bodyM_length]; omega
                      have hb2 : (bodyM t2).length ≤ 2 := by rw [bodyM_length]; omega
                      by_cases hlen : (fed2.drop told2).length < 4 + (bodyM t2).length
                      · have HR' : Hid (R' = [] → c3 + 1 = 0) := by
                          intro h
                          exfalso
                          have e := congrArg List.length HST.out
                          rw [h, List.append_nil, List.length_append, frameB_length] at e
                          omega
                        have HL := hid hlen
                        clear hlen
                        go_wp2_with fail
                        refine (next_no N N v2 2 fed2 told2 _ HJ.out.fz HJ.out.fz.b8 R' _ _ HST.out hb1 hb2 (by omega) HL.out).mono ?_
                        rintro e w6 ⟨rfl, n6, rfl⟩
                        unfold noFrame
                        have HJ6 := hid (HJ.out.drewN n6)
                        go_wp2
                        exact ⟨⟨t2, c3 + 1, R', fed2, told2, v2, rfl, HJ6, HR'.out⟩, by simp [lenV]; omega⟩
                      · have HL : Hid (4 + (bodyM t2).length ≤ (fed2.drop told2).length) := Nat.le_of_not_lt hlen
                        clear hlen
                        go_wp2_with fail
                        refine (next_yes N N v2 2 fed2 told2 _ HJ.out.fz (by have := HJ.out.size; omega) HJ.out.fz.b8 R' _ _ HST.out hb1 hb2 (by omega) HL.out).mono ?_
                        rintro e w6 ⟨P', hP', bv, v6, fed6, told6, rfl, hbo, hz6, hd6, hf6, _, _, hl6⟩
                        have HJ6 := hid (HJ.out.told (v' := v6) hz6 hf6 (by rw [hd6]; exact hP') hl6)
                        clear hz6 hd6 hf6 hl6 hP'
                        rcases (show t2 % 2 = 0 ∨ t2 % 2 = 1 by omega) with hpar | hpar
                        · rw [bodyM_even t2 hpar] at hbo
                          rcases hbo.2 with ⟨_, h0⟩ | ⟨gb, capb, cur, rfl, _⟩
                          · simp at h0
                          · have hc0 : w6.cell? ⟨gb, 0, none⟩ = some (.int .u8 ((t2 : Int) % 256)) := by
                              have := hbo.cells (g := gb) rfl 0 _ rfl
                              rw [Addr.add_lit] at this
                              exact this
                            have hp' : (t2 : Int) % 2 = 0 := by omega
                            simp only [List.length_cons, List.length_nil]
                            clear hbo hpar
                            go_wp2
                            exact ⟨⟨t2 + 1, c3, fed6, told6, v6, by go_num, HJ6⟩, by simp [intOf]; omega⟩
                        · rw [bodyM_odd t2 hpar] at hbo
                          rcases hbo.2 with ⟨_, h0⟩ | ⟨gb, capb, cur, rfl, _⟩
                          · simp at h0
                          · have hc0 : w6.cell? ⟨gb, 0, none⟩ = some (.int .u8 ((t2 : Int) % 256)) := by
                              have := hbo.cells (g := gb) rfl 0 _ rfl
                              rw [Addr.add_lit] at this
                              exact this
                            have hc1 : w6.cell? ⟨gb, 1, none⟩ = some (.int .u8 ((t2 : Int) / 256)) := by
                              have := hbo.cells (g := gb) rfl 1 _ rfl
                              rw [Addr.add_lit] at this
                              rw [show ((t2 : Int) / 256) = ((t2 / 256 % 256 : Nat) : Int) from by omega]
                              exact this
                            have hp' : (t2 : Int) % 2 = 1 := by omega
                            simp only [List.length_cons, List.length_nil]
                            clear hbo hpar
                            go_wp2
                            exact ⟨⟨t2 + 1, c3, fed6, told6, v6, by go_num, HJ6⟩, by simp [intOf]; omega⟩
                  · have hzero' : ((l' : Int) == 0) = true := by simp; omega
                    have HZR := hid hzero
                    clear hzero
                    cases c2 with
                    | zero =>
                      have hnil : fed2.drop told2 = [] ∧ R' = [] := List.append_eq_nil_iff.1 HJ.out.stream
                      have HNL := hid hnil.1
                      clear hnil
                      go_wp2_with fail
                      refine (next_none N N v2 2 fed2 told2 _ HJ.out.fz HNL.out).mono ?_
                      rintro e w6 ⟨rfl, n6, rfl⟩
                      unfold noFrame
                      have HJ6 := hid (HJ.out.drewN n6)
                      go_wp2
                      exact ⟨⟨t2, 0, R', fed2, told2, v2, rfl, HJ6, fun _ => rfl⟩, by simp [lenV]; omega⟩
                    | succ c3 =>
                      have hstr : fed2.drop told2 ++ R' = frameB (bodyM t2) ++ tl (t2 + 1) c3 := HJ.out.stream
                      have HST := hid hstr
                      clear hstr
                      have hb1 : 1 ≤ (bodyM t2).length := by rw [bodyM_length]; omega
                      have hb2 : (bodyM t2).length ≤ 2 := by rw [bodyM_length]; omega
                      by_cases hlen : (fed2.drop told2).length < 4 + (bodyM t2).length
                      · have HR' : Hid (R' = [] → c3 + 1 = 0) := by
                          intro h
                          exfalso
                          have e := congrArg List.length HST.out
                          rw [h, List.append_nil, List.length_append, frameB_length] at e
                          omega
                        have HL := hid hlen
                        clear hlen
                        go_wp2_with fail
                        refine (next_no N N v2 2 fed2 told2 _ HJ.out.fz HJ.out.fz.b8 R' _ _ HST.out hb1 hb2 (by omega) HL.out).mono ?_
                        rintro e w6 ⟨rfl, n6, rfl⟩
                        unfold noFrame
                        have HJ6 := hid (HJ.out.drewN n6)
                        go_wp2
                        exact ⟨⟨t2, c3 + 1, R', fed2, told2, v2, rfl, HJ6, HR'.out⟩, by simp [lenV]; omega⟩
                      · have HL : Hid (4 + (bodyM t2).length ≤ (fed2.drop told2).length) := Nat.le_of_not_lt hlen
                        clear hlen
                        go_wp2_with fail
                        refine (next_yes N N v2 2 fed2 told2 _ HJ.out.fz (by have := HJ.out.size; omega) HJ.out.fz.b8 R' _ _ HST.out hb1 hb2 (by omega) HL.out).mono ?_
                        rintro e w6 ⟨P', hP', bv, v6, fed6, told6, rfl, hbo, hz6, hd6, hf6, _, _, hl6⟩
                        have HJ6 := hid (HJ.out.told (v' := v6) hz6 hf6 (by rw [hd6]; exact hP') hl6)
                        clear hz6 hd6 hf6 hl6 hP'
                        rcases (show t2 % 2 = 0 ∨ t2 % 2 = 1 by omega) with hpar | hpar
                        · rw [bodyM_even t2 hpar] at hbo
                          rcases hbo.2 with ⟨_, h0⟩ | ⟨gb, capb, cur, rfl, _⟩
                          · simp at h0
                          · have hc0 : w6.cell? ⟨gb, 0, none⟩ = some (.int .u8 ((t2 : Int) % 256)) := by
                              have := hbo.cells (g := gb) rfl 0 _ rfl
                              rw [Addr.add_lit] at this
                              exact this
                            have hp' : (t2 : Int) % 2 = 0 := by omega
                            simp only [List.length_cons, List.length_nil]
                            clear hbo hpar
                            go_wp2
                            exact ⟨⟨t2 + 1, c3, fed6, told6, v6, by go_num, HJ6⟩, by simp [intOf]; omega⟩
                        · rw [bodyM_odd t2 hpar] at hbo
                          rcases hbo.2 with ⟨_, h0⟩ | ⟨gb, capb, cur, rfl, _⟩
                          · simp at h0
                          · have hc0 : w6.cell? ⟨gb, 0, none⟩ = some (.int .u8 ((t2 : Int) % 256)) := by
                              have := hbo.cells (g := gb) rfl 0 _ rfl
                              rw [Addr.add_lit] at this
                              exact this
                            have hc1 : w6.cell? ⟨gb, 1, none⟩ = some (.int .u8 ((t2 : Int) / 256)) := by
                              have := hbo.cells (g := gb) rfl 1 _ rfl
                              rw [Addr.add_lit] at this
                              rw [show ((t2 : Int) / 256) = ((t2 / 256 % 256 : Nat) : Int) from by omega]
                              exact this
                            have hp' : (t2 : Int) % 2 = 1 := by omega
                            simp only [List.length_cons, List.length_nil]
                            clear hbo hpar
                            go_wp2
                            exact ⟨⟨t2 + 1, c3, fed6, told6, v6, by go_num, HJ6⟩, by simp [intOf]; omega⟩

set_option maxRecDepth 100000 in
theorem many_lifted (os : Os) (started : os.Started) (H : Type) (enc : TypeId × Value → H) :
    ReturnsInHanded {} Try.checked os 7 .any (Rows.wireManySpec.pre6 enc Try.prog Try.f7 Rows.wireManyRow.domain false) (Rows.wireManySpec.post enc Try.prog Try.f7 false true false false) := by
  refine returnsInHanded_of_change (C := Try.checked) manyOwn started (by kernel_rfl) Try.func7
    (ChangeSpec.witness6 (enc := enc) (C := Try.checked) false ⟨#[], #[.int .i64 0, .int .i64 0, .bool false], []⟩ 8 (by kernel_rfl) (by kernel_rfl) (by kernel_rfl) (by kernel_rfl)) ?_
  intro W base args ds gs before hval0 hW hcnd _
  have hval : ∀ (j : Nat) t v, Try.f7.params[j]? = some t → args[j]? = some v → Value.okWide Try.prog W .any base t v := hval0
  have hW' := hW
  obtain ⟨p, q, hA0, hV, rfl, hfz, hnd⟩ := hW
  have hA : DataW.TrodAll enc Try.prog W 0 (fun _ => true) true Try.f7.params.toList args.toList ds p := hA0
  rw [Try.params7] at hA hval
  obtain ⟨v0, v1, v2, d0, d1, d2, p0, p1, p2, rfl, rfl, rfl, h0, h1, h2⟩ := trodAll_three hA
  obtain ⟨rfl, rfl⟩ := trodVars_none hV
  obtain ⟨x0, rfl, rfl, rfl, w0⟩ := open_int Try.underlying3 (hval 0 3 v0 rfl rfl) h0
  obtain ⟨x1, rfl, rfl, rfl, w1⟩ := open_int Try.underlying3 (hval 1 3 v1 rfl rfl) h1
  obtain ⟨x2, rfl, rfl, rfl⟩ := open_bool Try.underlying4 (hval 2 4 v2 rfl rfl) h2
  refine (many_walk x0 x1 x2 W).mono fun e W' ⟨he, bel⟩ => ?_
  subst he
  exact ⟨_, rfl, _, _, _, [], [], [], hW', trodAll_mk1 (shut_bool Try.underlying4 _), trodAll_mk3 (shut_int Try.underlying3 w0) (shut_int Try.underlying3 w1) (shut_bool Try.underlying4 _), rfl, bel.frame _, fun h => by cases h⟩

theorem many_over : Rows.wireManyRow.holds Try.pinned (OpenSpec.ofChange Rows.wireManySpec) :=
  OpenClaim.holds_of_wide 7 Try.f7 rfl rfl rfl rfl rfl rfl rfl ⟨rfl, rfl, rfl, rfl, rfl⟩ rfl rfl rfl rfl rfl (by kernel_rfl) Try.func7 (by kernel_rfl)
    (of_decide_eq_true (by kernel_rfl)) (by unfold Func.isWrapper; first | (rw [if_pos (by decide +kernel)]; kernel_rfl) | (rw [if_neg (by decide +kernel)]; exact ⟨rfl, rfl⟩))
    (fun os started H enc _ => many_lifted os started H enc)

theorem wireMany_holds : Rows.WireManySaid := many_over
#print axioms wireMany_holds
end Go.Proofs.Ytfoapnmljnonlab
