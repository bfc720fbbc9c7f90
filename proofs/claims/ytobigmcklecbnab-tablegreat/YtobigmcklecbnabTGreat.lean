/- TableGreat: the walk. -/
import Derived.Test.YtobigmcklecbnabTGreatP
import Derived.Deep.DeepCutAuto
namespace Go.Proofs.Ytobigmcklecbnab
open Go.RowKit

/-- The table at B, of new blocks alone, with all that is said of it. -/
structure Gt (w : World) (N B : Nat) (wx : World) (T : Tb) : Prop where
  ex : ∃ gr ge, TbAt wx B gr ge T ∧ ∀ b, bl B gr ge b → N ≤ b
  fr : Fr w wx (fun _ => False)
theorem Gt.step {w wx wy : World} {N B : Nat} {T : Tb} (h : Gt w N B wx T) (hf : Fr wx wy (fun _ => False)) : Gt w N B wy T := by
  obtain ⟨gr, ge, h1, h2⟩ := h.ex
  exact ⟨⟨gr, ge, h1.step hf, h2⟩, h.fr.trans hf⟩
theorem Gt.lt {w wx : World} {N B : Nat} {T : Tb} (h : Gt w N B wx T) : B < wx.heap.size := by
  obtain ⟨gr, ge, h1, _⟩ := h.ex
  exact h1.lt

theorem gput {w wx : World} {B : Nat} {T : Tb} (k : ByteArray) (x : Int) (h : Gt w w.heap.size B wx T) (hI : Inv T) (hk : k.size ≤ 9223372036854775807) (hl : 2 * T.row.length ≤ 1099511627776) :
    Calls Try.prog 11 #[.pointer (some ⟨B, 0, none⟩), .string k, .int .i64 x] wx fun e w' => e = .returned (.tuple #[]) ∧ Gt w w.heap.size B w' (putT (.int .i64 0) T k (.int .i64 x)) := by
  obtain ⟨gr, ge, h1, h2⟩ := h.ex
  refine (put_any k x wx h1 hI hk hl).mono ?_
  rintro e w' ⟨rfl, ⟨gr', ge', h3, h4⟩, h5⟩
  refine ⟨rfl, ⟨gr', ge', h3, fun b hb => ?_⟩, h.fr.trans2 h5 (fun b hb e => by have := h2 b e; omega)⟩
  rcases h4 b hb with h6 | h6
  · exact h2 b h6
  · have := h.fr.size; omega
theorem gdrop {w wx : World} {B : Nat} {T : Tb} (k : ByteArray) (h : Gt w w.heap.size B wx T) (hI : Inv T) (hk : k.size ≤ 9223372036854775807) :
    Calls Try.prog 10 #[.pointer (some ⟨B, 0, none⟩), .string k] wx fun e w' => e = .returned (.tuple #[(dropV (.int .i64 0) T k).1, .bool (dropV (.int .i64 0) T k).2]) ∧ Gt w w.heap.size B w' (dropT (.int .i64 0) T k) := by
  obtain ⟨gr, ge, h1, h2⟩ := h.ex
  refine (drop_any k wx h1 hI hk).mono ?_
  rintro e w' ⟨rfl, ⟨ge', h3, h4⟩, h5⟩
  refine ⟨rfl, ⟨gr, ge', h3, fun b hb => ?_⟩, h.fr.trans2 h5 (fun b hb e => by have := h2 b e; omega)⟩
  apply h2
  rcases hb with hb | hb | hb
  · exact Or.inl hb
  · exact Or.inr (Or.inl hb)
  · rcases h4 with h4 | h4
    · rw [h4] at hb; exact Or.inr (Or.inr hb)
    · rw [h4] at hb; cases hb
theorem gmove {w wx : World} {B : Nat} {T : Tb} (n : Int) (h : Gt w w.heap.size B wx T) :
    Calls Try.prog 15 #[.pointer (some ⟨B, 0, none⟩), .int .i64 n] wx fun e w' => e = .returned (.int .i64 ((moveT (.int .i64 0) T n).left : Int)) ∧ Gt w w.heap.size B w' (moveT (.int .i64 0) T n) := by
  obtain ⟨gr, ge, h1, h2⟩ := h.ex
  refine (move_any n wx h1).mono ?_
  rintro e w' ⟨rfl, ⟨ge', h3, h4⟩, h5⟩
  refine ⟨rfl, ⟨gr, ge', h3, fun b hb => ?_⟩, h.fr.trans2 h5 (fun b hb e => by have := h2 b e; omega)⟩
  apply h2
  rcases hb with hb | hb | hb
  · exact Or.inl hb
  · exact Or.inr (Or.inl hb)
  · rcases h4 with h4 | h4
    · rw [h4] at hb; exact Or.inr (Or.inr hb)
    · rw [h4] at hb; cases hb
theorem gget {w wx : World} {N B : Nat} {T : Tb} (k : ByteArray) (h : Gt w N B wx T) (hk : k.size ≤ 9223372036854775807) :
    Calls Try.prog 14 #[.pointer (some ⟨B, 0, none⟩), .string k] wx fun e w' => e = .returned (.tuple #[(getT (.int .i64 0) T k).1, .bool (getT (.int .i64 0) T k).2]) ∧ w' = wx := by
  obtain ⟨gr, ge, h1, h2⟩ := h.ex
  exact get_any k wx h1 hk
theorem glen {w wx : World} {N B : Nat} {T : Tb} (h : Gt w N B wx T) : Calls Try.prog 9 #[.pointer (some ⟨B, 0, none⟩)] wx fun e w' => e = .returned (.int .i64 (T.keys : Int)) ∧ w' = wx := by
  obtain ⟨gr, ge, h1, h2⟩ := h.ex
  exact len_any wx h1
theorem gslots {w wx : World} {N B : Nat} {T : Tb} (h : Gt w N B wx T) : Calls Try.prog 13 #[.pointer (some ⟨B, 0, none⟩)] wx fun e w' => e = .returned (.int .i64 (T.row.length : Int)) ∧ w' = wx := by
  obtain ⟨gr, ge, h1, h2⟩ := h.ex
  exact slots_any wx h1
theorem gleft {w wx : World} {N B : Nat} {T : Tb} (h : Gt w N B wx T) : Calls Try.prog 16 #[.pointer (some ⟨B, 0, none⟩)] wx fun e w' => e = .returned (.int .i64 (T.left : Int)) ∧ Gt w N B w' T := by
  obtain ⟨gr, ge, h1, h2⟩ := h.ex
  refine (left_any wx h1).mono ?_
  rintro e w' ⟨rfl, hf⟩
  exact ⟨rfl, h.step hf⟩

set_option maxHeartbeats 400000 in
set_option maxRecDepth 100000 in
theorem great_walk (x0 x1 : Int) (s : ByteArray) (w : World) (hsz : s.size ≤ 9223372036854775807) : Calls Try.prog 4 #[.int .i64 x0, .int .i64 x1, .string s] w fun e w' => e = .returned (.bool true) ∧ Fr w w' (fun _ => False) := by
  by_cases hs : (100 : Int) < (s.size : Int)
  · go_enter Try.func4, Try.ntmps4
    go_wp2_with fail
    refine (known_any _).mono ?_
    rintro e w1 ⟨rfl, hf1⟩
    have HF1 := hid hf1
    clear hf1
    go_wp2_with fail
    go_ret
    exact ⟨rfl, HF1.out⟩
  · have hs1 : s.size ≤ 100 := by omega
    have b1 : -30001 < x0.tmod 30001 := Int.lt_tmod_of_pos x0 (by omega)
    have b2 : x0.tmod 30001 < 30001 := Int.tmod_lt_of_pos x0 (by omega)
    have b3 : -10 < x1.tmod 10 := Int.lt_tmod_of_pos x1 (by omega)
    have b4 : x1.tmod 10 < 10 := Int.tmod_lt_of_pos x1 (by omega)
    obtain ⟨K, hK⟩ : ∃ K : Nat, (if x0.tmod 30001 < 0 then 0 - x0.tmod 30001 else x0.tmod 30001) = (K : Int) := ⟨(if x0.tmod 30001 < 0 then 0 - x0.tmod 30001 else x0.tmod 30001).toNat, by split <;> omega⟩
    obtain ⟨E, hE⟩ : ∃ E : Nat, (if x1.tmod 10 < 0 then 0 - x1.tmod 10 else x1.tmod 10) = (E : Int) := ⟨(if x1.tmod 10 < 0 then 0 - x1.tmod 10 else x1.tmod 10).toNat, by split <;> omega⟩
    have hK3 : K ≤ 30000 := by split at hK <;> omega
    have hE3 : E ≤ 9 := by split at hE <;> omega
    have HK := hid hK
    have HE := hid hE
    clear hK hE
    go_enter Try.func4, Try.ntmps4
    go_wp2_with fail
    refine (known_any _).mono ?_
    rintro e w1 ⟨rfl, hf1⟩
    have HF1 := hid hf1
    clear hf1
    go_upto_if 29 with fail
    generalize x0.tmod 30001 = y0 at *
    go_cut [0] (fun s0 wx => s0 = .int .i64 (K : Int) ∧ wx = w1)
    case first =>
      by_cases h0 : y0 < 0
      · have hh := HK.out
        rw [if_pos h0] at hh
        go_wp2_with fail
        go_meet
        exact ⟨rfl, rfl⟩
      · have hh := HK.out
        rw [if_neg h0] at hh
        go_wp2_with fail
        go_meet
        exact ⟨rfl, rfl⟩
    case rest =>
      obtain ⟨rfl, hwc⟩ := hcut
      have hwc := hwc.symm
      subst hwc
      clear b1 b2 HK
      go_upto_if 35 with fail
      generalize x1.tmod 10 = y1 at *
      go_cut [1] (fun s0 wx => s0 = .int .i64 (E : Int) ∧ wx = w1)
      case first =>
        by_cases h0 : y1 < 0
        · have hh := HE.out
          rw [if_pos h0] at hh
          go_wp2_with fail
          go_meet
          exact ⟨rfl, rfl⟩
        · have hh := HE.out
          rw [if_neg h0] at hh
          go_wp2_with fail
          go_meet
          exact ⟨rfl, rfl⟩
      case rest =>
        obtain ⟨rfl, hwc⟩ := hcut
        have hwc := hwc.symm
        subst hwc
        clear b3 b4 HE
        go_wp2_with fail
        refine (new_any _).mono ?_
        rintro e w2 ⟨rfl, hT2, hf2, hs2⟩
        have hs3 := HF1.out.size
        have HG0 : Hid (Gt w w.heap.size (w1.heap.size + 1) w2 (newT (.int .i64 0))) := ⟨⟨_, _, hT2, fun b hb => by rcases hb with hb | hb | hb; omega; omega; cases hb⟩, HF1.out.trans hf2⟩
        clear hT2 hf2 HF1 hs2
        generalize w1.heap.size + 1 = B at *
        go_wp2_with fail
        go_loopg [8, 9, 10] K (fun gk s8 s9 s10 wx => ∃ (i : Nat) (T : Tb), s8 = .int .i64 (T.row.length : Int) ∧ s9 = .int .i64 (T.keys : Int) ∧ s10 = .int .i64 (i : Int) ∧ i + gk = K ∧ Hid (Gr s E i T) ∧ Hid (Gt w w.heap.size B wx T))
        case atStart => exact ⟨0, newT (.int .i64 0), rfl, rfl, rfl, by omega, Gr.zero s E, HG0⟩
        case round =>
          obtain ⟨i, T, rfl, rfl, rfl, hg, HGr, HGt⟩ := hrel
          clear HG0
          have hlt := HGt.out.lt
          have hkl := HGr.out.keys
          have hrl := HGr.out.len
          cases gk with
          | zero =>
            have t1 : ¬ (i : Int) < (K : Int) := by omega
            obtain rfl : K = i := by omega
            clear hg
            go_wp2_with fail
            go_loopg [13] K (fun gk s13 wx => ∃ i : Nat, s13 = .int .i64 (i : Int) ∧ i + gk = K ∧ Hid (Gt w w.heap.size B wx T))
            case atStart => exact ⟨0, rfl, by omega, HGt⟩
            case round =>
              obtain ⟨i, rfl, hg, HG2⟩ := hrel
              clear HGt
              have hlt2 := HG2.out.lt
              cases gk with
              | zero =>
                have t1 : ¬ (i : Int) < (K : Int) := by omega
                clear hg
                have HLf := hid (gleft HG2.out)
                obtain ⟨d1, d2, d3⟩ := HGr.out.down
                go_wp2_with fail
                refine HLf.out.mono ?_
                rintro e w3 ⟨rfl, hG3⟩
                have HG3 := hid hG3
                clear hG3 HG2 HLf
                go_wp2_with fail
                refine (gmove (T.left : Int) HG3.out).mono ?_
                rintro e w4 ⟨rfl, hG4⟩
                generalize moveT (.int .i64 0) T (T.left : Int) = D0 at *
                have HG4 := hid hG4
                have HD1 := hid d1
                have HD2 := hid d2
                have HD3 := hid d3
                clear hG4 HG3 d1 d2 d3
                go_wp2_with fail
                go_loopg [17, 18] K (fun gk s17 s18 wx => ∃ (i a : Nat) (D : Tb), s17 = .int .i64 (a : Int) ∧ s18 = .int .i64 (i : Int) ∧ i + gk = K ∧ a ≤ i ∧ Hid (Gd s E K i D) ∧ Hid (D.keys + a = T.keys) ∧ Hid (D.row.length = T.row.length) ∧ Hid (Gt w w.heap.size B wx D))
                case atStart => exact ⟨0, 0, D0, rfl, rfl, by omega, by omega, HD1, by show D0.keys + 0 = _; rw [HD2.out]; rfl, HD3, HG4⟩
                case round =>
                  obtain ⟨i, a, D, rfl, rfl, hg, hai, HGd, HDk, HDl, HG5⟩ := hrel
                  clear HG4 HD1 HD2 HD3
                  have hlt5 := HG5.out.lt
                  cases gk with
                  | zero =>
                    have t1 : ¬ (i : Int) < (K : Int) := by omega
                    obtain rfl : K = i := by omega
                    clear hg
                    have HK0 := hid HGd.out.none
                    have HLn := hid (glen HG5.out)
                    have HSl := hid (gslots HG5.out)
                    have HLf := hid (gleft HG5.out)
                    rw [HDl.out] at HSl
                    rw [HK0.out] at HLn
                    rw [HGd.out.left] at HLf
                    have hTa : T.keys = a := by have h1 := HDk.out; rw [HK0.out] at h1; omega
                    rw [hTa]
                    clear hTa
                    go_wp2_with fail
                    refine HLn.out.mono ?_
                    rintro e w7 ⟨rfl, hw7⟩
                    have hw7 := hw7.symm
                    subst hw7
                    go_wp2_with fail
                    refine HSl.out.mono ?_
                    rintro e w7 ⟨rfl, hw7⟩
                    have hw7 := hw7.symm
                    subst hw7
                    go_wp2_with fail
                    refine HLf.out.mono ?_
                    rintro e w8 ⟨rfl, hG8⟩
                    have HG8 := hid hG8
                    clear hG8
                    go_wp2_with fail
                    go_ret
                    exact ⟨rfl, HG8.out.fr⟩
                  | succ f =>
                    have hi : i < K := by omega
                    have t1 : (i : Int) < (K : Int) := by omega
                    have HG := hid hg
                    clear hg
                    have HNa := hid (fun W => name_any i s W (by omega) hs1)
                    have HKs := hid (nk_size s i hs1 (by omega : i ≤ 30001))
                    obtain ⟨n1, n2, n3⟩ := HGd.out.next hi
                    have HDr := hid (fun (W : World) (hW : Gt w w.heap.size B W D) => gdrop (nk s i) hW HGd.out.inv HKs.out)
                    generalize dropT (.int .i64 0) D (nk s i) = D' at *
                    generalize dropV (.int .i64 0) D (nk s i) = dv at *
                    have HN1 := hid n1
                    have HN2 := hid n2
                    have HN3 := hid n3
                    clear n1 n2 n3
                    generalize nk s i = key at HNa HDr HKs
                    cases hgn : gn E i with
                    | true =>
                      have h3 := HN3.out
                      rw [hgn, if_pos rfl] at h3
                      obtain ⟨h3, h4⟩ := h3
                      subst h3
                      have H4 := hid h4
                      clear h4 hgn HN3
                      go_wp2_with fail
                      refine (HNa.out _).mono ?_
                      rintro e w6 ⟨rfl, hf6⟩
                      have HG6 := hid (HG5.out.step hf6)
                      clear hf6
                      go_wp2_with fail
                      refine (HDr.out _ HG6.out).mono ?_
                      rintro e w7 ⟨rfl, hG7⟩
                      have HG7 := hid hG7
                      clear hG7
                      go_wp2_with fail
                      go_roundg f
                      case measure => omega
                      case rel => exact ⟨i + 1, a, D', rfl, by go_num, by have := HG.out; omega, by omega, HN1, by show D'.keys + a = _; rw [H4.out]; exact HDk.out, HN2.out.trans HDl.out, HG7⟩
                    | false =>
                      have h3 := HN3.out
                      rw [hgn, if_neg (by simp)] at h3
                      obtain ⟨h3, h4⟩ := h3
                      subst h3
                      unfold kv at HDr
                      have H4 := hid h4
                      clear h4 hgn HN3
                      go_wp2_with fail
                      refine (HNa.out _).mono ?_
                      rintro e w6 ⟨rfl, hf6⟩
                      have HG6 := hid (HG5.out.step hf6)
                      clear hf6
                      go_wp2_with fail
                      refine (HDr.out _ HG6.out).mono ?_
                      rintro e w7 ⟨rfl, hG7⟩
                      have HG7 := hid hG7
                      clear hG7
                      go_wp2_with fail
                      go_roundg f
                      case measure => omega
                      case rel => exact ⟨i + 1, a + 1, D', by go_num, by go_num, by have := HG.out; omega, by omega, HN1, by show D'.keys + (a + 1) = _; have h5 := H4.out; have h6 := HDk.out; omega, HN2.out.trans HDl.out, HG7⟩
              | succ f =>
                have hi : i < K := by omega
                have t1 : (i : Int) < (K : Int) := by omega
                have HG := hid hg
                clear hg
                have HNa := hid (fun W => name_any i s W (by omega) hs1)
                have HKs := hid (nk_size s i hs1 (by omega : i ≤ 30001))
                have HGet := hid (HGr.out.get hi)
                generalize nk s i = key at HNa HGet HKs
                unfold kv at HGet
                by_cases hE1 : (1 : Int) < (E : Int)
                · have hE0 : ((E : Int) == 0) = false := by simp; omega
                  by_cases hm : (i : Int) % (E : Int) = 0
                  · have hgn : gn E i = true := by unfold gn; rw [decide_eq_true_eq]; exact ⟨by omega, by omega⟩
                    have hq := HGet.out
                    rw [hgn] at hq
                    simp only [if_true] at hq
                    have HQ := hid hq
                    clear hq hgn
                    go_wp2_with fail
                    refine (HNa.out _).mono ?_
                    rintro e w3 ⟨rfl, hf3⟩
                    have HG3 := hid (HG2.out.step hf3)
                    clear hf3
                    go_wp2_with fail
                    refine (gget _ HG3.out HKs.out).mono ?_
                    rintro e w4 ⟨rfl, hw4⟩
                    have hw4 := hw4.symm
                    subst hw4
                    rw [HQ.out]
                    go_wp2_with fail
                    go_roundg f
                    case measure => omega
                    case rel => exact ⟨i + 1, by go_num, by have := HG.out; omega, HG3⟩
                  · have hgn : gn E i = false := by unfold gn; rw [decide_eq_false_iff_not]; rintro ⟨_, h2⟩; omega
                    have hq := HGet.out
                    rw [hgn] at hq
                    simp only [Bool.false_eq_true, if_false] at hq
                    have HQ := hid hq
                    clear hq hgn
                    go_wp2_with fail
                    refine (HNa.out _).mono ?_
                    rintro e w3 ⟨rfl, hf3⟩
                    have HG3 := hid (HG2.out.step hf3)
                    clear hf3
                    go_wp2_with fail
                    refine (gget _ HG3.out HKs.out).mono ?_
                    rintro e w4 ⟨rfl, hw4⟩
                    have hw4 := hw4.symm
                    subst hw4
                    rw [HQ.out]
                    go_wp2_with fail
                    go_roundg f
                    case measure => omega
                    case rel => exact ⟨i + 1, by go_num, by have := HG.out; omega, HG3⟩
                · have hgn : gn E i = false := by unfold gn; rw [decide_eq_false_iff_not]; rintro ⟨_, h2⟩; omega
                  have hq := HGet.out
                  rw [hgn] at hq
                  simp only [Bool.false_eq_true, if_false] at hq
                  have HQ := hid hq
                  clear hq hgn
                  go_wp2_with fail
                  refine (HNa.out _).mono ?_
                  rintro e w3 ⟨rfl, hf3⟩
                  have HG3 := hid (HG2.out.step hf3)
                  clear hf3
                  go_wp2_with fail
                  refine (gget _ HG3.out HKs.out).mono ?_
                  rintro e w4 ⟨rfl, hw4⟩
                  have hw4 := hw4.symm
                  subst hw4
                  rw [HQ.out]
                  go_wp2_with fail
                  go_roundg f
                  case measure => omega
                  case rel => exact ⟨i + 1, by go_num, by have := HG.out; omega, HG3⟩
          | succ f =>
            have hi : i < K := by omega
            have t1 : (i : Int) < (K : Int) := by omega
            have HG := hid hg
            clear hg
            obtain ⟨U, hU⟩ : ∃ U, putT (.int .i64 0) T (nk s i) (kv i) = U := ⟨_, rfl⟩
            obtain ⟨p1, p2, p3, p4, p5⟩ := HGr.out.put
            have HStay := hid (fun h => HGr.out.stay (e := E) (i := i) h)
            have HGo := hid (fun h => HGr.out.go (e := E) (i := i) h)
            have HPut : Hid (∀ W : World, Gt w w.heap.size B W T → Calls Try.prog 11 #[.pointer (some ⟨B, 0, none⟩), .string (nk s i), .int .i64 (i : Int)] W fun e w' => e = .returned (.tuple #[]) ∧ Gt w w.heap.size B w' (putT (.int .i64 0) T (nk s i) (kv i))) := fun W hW => gput (nk s i) (i : Int) hW HGr.out.inv (nk_size s i hs1 (by omega)) (by omega)
            rw [hU] at p1 p3 p4 p5 HStay HGo HPut
            have HPi := hid p1
            have HPk := hid p3
            have HPl := hid p4
            have hUk : U.keys ≤ 40000 := by omega
            have hUl : U.row.length ≤ 300000 := by omega
            clear p1 p2 p3 p4 p5 hU
            go_upto_if 49 with fail
            go_cut [8] (fun s8 wx => s8 = .int .i64 (U.row.length : Int) ∧ wx = wr)
            case first =>
              by_cases h0 : 3 * T.row.length < 4 * (T.keys + 1)
              · have hh := HPl.out
                rw [if_pos h0] at hh
                have t2 : 3 * (T.row.length : Int) < 4 * ((T.keys : Int) + 1) := by omega
                have HH := hid hh
                clear hh h0
                go_wp2_with fail
                go_meet
                exact ⟨by rw [HH.out]; first | rfl | go_num, rfl⟩
              · have hh := HPl.out
                rw [if_neg h0] at hh
                have t2 : ¬ 3 * (T.row.length : Int) < 4 * ((T.keys : Int) + 1) := by omega
                have HH := hid hh
                clear hh h0
                go_wp2_with fail
                go_meet
                exact ⟨by rw [HH.out], rfl⟩
            case rest =>
              obtain ⟨rfl, hwc⟩ := hcut
              have hwc := hwc.symm
              subst hwc
              have HNa := hid (fun W => name_any i s W (by omega) hs1)
              have HKs := hid (nk_size s i hs1 (by omega : i ≤ 30001))
              clear HPl
              generalize hkk : nk s i = key at HNa HKs HPut HGo
              have HKK := hid hkk
              clear hkk
              go_wp2_with fail
              refine (HNa.out _).mono ?_
              rintro e w3 ⟨rfl, hf3⟩
              have HG3 := hid (HGt.out.step hf3)
              clear hf3
              go_wp2_with fail
              refine (HPut.out _ HG3.out).mono ?_
              rintro e w4 ⟨rfl, hG4⟩
              have HG4 := hid hG4
              have hlt4 := hG4.lt
              clear hG4 HG3 HPut HGt
              go_upto_region 21 with fail
              go_cut [67] (fun s67 wx => s67 = .bool (gn E i) ∧ wx = w4)
              case first =>
                by_cases hE1 : (1 : Int) < (E : Int)
                · have hE0 : ((E : Int) == 0) = false := by simp; omega
                  by_cases hm : (i : Int) % (E : Int) = 0
                  · have hgn : gn E i = true := by unfold gn; rw [decide_eq_true_eq]; exact ⟨by omega, by omega⟩
                    have HGn := hid hgn
                    clear hgn
                    go_wp2_with fail
                    go_meet
                    exact ⟨by rw [HGn.out] <;> exact congrArg Value.bool (beq_eq_false_iff_ne.2 hm), rfl⟩
                  · have hgn : gn E i = false := by unfold gn; rw [decide_eq_false_iff_not]; rintro ⟨_, h2⟩; omega
                    have HGn := hid hgn
                    clear hgn
                    go_wp2_with fail
                    go_meet
                    exact ⟨by rw [HGn.out] <;> exact congrArg Value.bool (beq_eq_false_iff_ne.2 hm), rfl⟩
                · have hgn : gn E i = false := by unfold gn; rw [decide_eq_false_iff_not]; rintro ⟨_, h2⟩; omega
                  have HGn := hid hgn
                  clear hgn
                  go_wp2_with fail
                  go_meet
                  exact ⟨by rw [HGn.out] <;> exact congrArg Value.bool (beq_eq_false_iff_ne.2 hm), rfl⟩
              case rest =>
              obtain ⟨rfl, hwc⟩ := hcut
              have hwc := hwc.symm
              subst hwc
              go_upto_if 67 with fail
              go_cut [9, 11, 12] (fun s9 s11 s12 wx => ∃ V : Tb, s9 = .int .i64 (V.keys : Int) ∧ Hid (V.row.length = U.row.length) ∧ Hid (Gr s E (i + 1) V) ∧ Hid (Gt w w.heap.size B wx V))
              case first =>
                cases hgn : gn E i with
                | true =>
                  obtain ⟨q1, q2, q3, q4⟩ := HGo.out hgn
                  have HD := hid (fun (W : World) (hW : Gt w w.heap.size B W U) => gdrop key hW HPi.out HKs.out)
                  rw [q2] at HD
                  unfold kv at HD
                  have H1 := hid q1
                  have H3 := hid q3
                  have H4 := hid q4
                  clear q1 q2 q3 q4 hgn
                  go_wp2_with fail
                  refine (HNa.out _).mono ?_
                  rintro e w5 ⟨rfl, hf5⟩
                  have HG5 := hid (HG4.out.step hf5)
                  clear hf5
                  go_wp2_with fail
                  refine (HD.out _ HG5.out).mono ?_
                  rintro e w6 ⟨rfl, hG6⟩
                  have HG6 := hid hG6
                  clear hG6
                  go_wp2_with fail
                  go_meet
                  exact ⟨_, by rw [H3.out], H4, H1, HG6⟩
                | false =>
                  have H1 := hid (HStay.out hgn)
                  clear hgn
                  go_wp2_with fail
                  go_meet
                  exact ⟨U, by rw [HPk.out]; go_num, rfl, H1, HG4⟩
              case rest =>
                obtain ⟨V, rfl, HVl, HVr, HVt⟩ := hcut
                clear HNa HG4 HStay HGo
                have hltV := HVt.out.lt
                have HLn := hid (glen HVt.out)
                have HSl := hid (gslots HVt.out)
                rw [HVl.out] at HSl
                have hVk : V.keys ≤ 40000 := by have := HVr.out.keys; omega
                go_wp2_with fail
                refine HLn.out.mono ?_
                rintro e w7 ⟨rfl, hw7⟩
                have hw7 := hw7.symm
                subst hw7
                go_wp2_with fail
                refine HSl.out.mono ?_
                rintro e w7 ⟨rfl, hw7⟩
                have hw7 := hw7.symm
                subst hw7
                go_wp2_with fail
                go_roundg f
                case measure => omega
                case rel => exact ⟨i + 1, V, by rw [HVl.out], rfl, by go_num, by have := HG.out; omega, HVr, HVt⟩
end Go.Proofs.Ytobigmcklecbnab
