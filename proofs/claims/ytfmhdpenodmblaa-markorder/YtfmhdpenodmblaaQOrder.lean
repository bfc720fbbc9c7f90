/- MarkOrder: the walk. -/
import Derived.Test.YtfmhdpenodmblaaQOrderP
import Derived.Test.YtfmhdpenodmblaaQSame
namespace Go.Proofs.Ytfmhdpenodmblaa
open Go.RowKit

/-- Two marks, apart. -/
structure PA (w : World) (B g B2 g2 : Nat) (ms ns : List Int) (W : World) : Prop where
  k1 : Km W B g ms
  k2 : Km W B2 g2 ns
  gh : g ≠ g2
  bn : w.heap.size ≤ B ∧ w.heap.size ≤ g ∧ w.heap.size ≤ B2 ∧ w.heap.size ≤ g2
  fr : Fr w W (fun _ => False)
theorem km_ne {W : World} {B g B2 g2 : Nat} {ms ns : List Int} (h : Km W B g ms) (k : Km W B2 g2 ns) : B ≠ g2 := by
  rintro rfl
  have h1 := h.cell
  have h2 : W.heap[B]? = some (.cells (iv ns).toArray 2 (0, 0)) := k.row
  rw [h1] at h2
  simp at h2
theorem PA.step {w : World} {B g B2 g2 : Nat} {ms ns : List Int} {W W' : World} (p : PA w B g B2 g2 ms ns W) (hf : Fr W W' (fun _ => False)) : PA w B g B2 g2 ms ns W' :=
  ⟨p.k1.fr hf (fun h => h) (fun h => h), p.k2.fr hf (fun h => h) (fun h => h), p.gh, p.bn, p.fr.trans hf⟩
theorem PA.drew {w : World} {B g B2 g2 : Nat} {ms ns : List Int} {W : World} (p : PA w B g B2 g2 ms ns W) : PA w B g B2 g2 ms ns W.drew := p.step (Fr.refl W _).drew
theorem PA.rise1 {w : World} {B g B2 g2 : Nat} {ms ns ms' : List Int} {W W' : World} (p : PA w B g B2 g2 ms ns W) (hk : Km W' B g ms') (hf : Fr W W' (fun b => b = g)) : PA w B g B2 g2 ms' ns W' :=
  ⟨hk, p.k2.fr hf (km_ne p.k2 p.k1) p.gh.symm, p.gh, p.bn, p.fr.trans2 hf (fun i hi e => by have := p.bn; omega)⟩
theorem PA.rise2 {w : World} {B g B2 g2 : Nat} {ms ns ns' : List Int} {W W' : World} (p : PA w B g B2 g2 ms ns W) (hk : Km W' B2 g2 ns') (hf : Fr W W' (fun b => b = g2)) : PA w B g B2 g2 ms ns' W' :=
  ⟨p.k1.fr hf (km_ne p.k1 p.k2) p.gh, hk, p.gh, p.bn, p.fr.trans2 hf (fun i hi e => by have := p.bn; omega)⟩

theorem rise_ne {W : World} {B g N : Nat} {ms : List Int} {x y : Value} (h : Km W B g ms) (hN : W.heap[N]? = some (.cells #[x, y] 36 (0, 0))) : ¬ N = g := by
  rintro rfl
  have h2 : W.heap[N]? = some (.cells (iv ms).toArray 2 (0, 0)) := h.row
  rw [hN] at h2
  simp at h2
theorem rem_run (i n : Nat) (h1 : 0 < n) : ∀ W : World, (binOp .rem 3 (.int .i64 (i : Int)) (.int .i64 (n : Int))).run Try.prog W = .ok (.int .i64 ((i % n : Nat) : Int)) W := by
  intro W
  have h4 : (i : Int).tmod (n : Int) = ((i % n : Nat) : Int) := by rw [Int.tmod_eq_emod_of_nonneg (by omega)]; rfl
  have h5 : ¬ n = 0 := by omega
  simp [binOp, Op.intDiv, h4, go_sem, h5]

theorem within_fr (a n : Int) (hn : 0 < n) (hb : n ≤ 1000000) (w : World) : Calls Try.prog 24 #[.int .i64 a, .int .i64 n] w fun e w' => e = .returned (.int .i64 (a % n)) ∧ Fr w w' (fun _ => False) :=
  (within_any a n hn hb w).mono fun e w' h => ⟨h.1, by rw [h.2]; exact Fr.refl _ _⟩

set_option maxHeartbeats 8000000 in
set_option maxRecDepth 100000 in
theorem order_walk {w : World} {v u1 u2 : Value} {rs : List Rq} {vs : List Vw} {ts : List Int} (src trn : Int) (hrs : Rs w v rs) (hvs : Vs w u1 vs) (hts : Nu w u2 ts) : Calls Try.prog 7 #[.int .i64 src, v, .int .i64 trn, u1, u2] w fun e w' => e = .returned (.bool true) ∧ Fr w w' (fun _ => False) := by
  have HRS := hid hrs
  have HVS := hid hvs
  have HTS := hid hts
  obtain ⟨ao, cap0, rfl, hrl, _⟩ := id hrs
  obtain ⟨bo, cap1, rfl, hvl, _⟩ := id hvs
  obtain ⟨co, cap2, rfl, htl, _⟩ := id hts
  clear hrs hvs hts
  have HW := hid (within_any src 8 (by decide) (by decide) w)
  obtain ⟨n, hn⟩ : ∃ n : Nat, (n : Int) = 1 + src % 8 := ⟨(1 + src % 8).toNat, by omega⟩
  have hn1 : 1 ≤ n := by omega
  have hn8 : n ≤ 8 := by omega
  have e1 : src % 8 = (n : Int) - 1 := by omega
  rw [e1] at HW
  clear hn e1
  have e1 : (1 : Int) + ((n : Int) - 1) = (n : Int) := by omega
  have e2 : IntKind.i64.wrap ((1 : Int) + ((n : Int) - 1)) = (n : Int) := by rw [e1]; exact wrap_fit (by unfold fits; omega)
  by_cases hlen : rs.length < 1 ∨ 200 < rs.length
  · have hc : (rs.length : Int) < 1 ∨ (¬ (rs.length : Int) < 1 ∧ 200 < (rs.length : Int)) := by omega
    clear hlen
    rcases hc with t1 | ⟨t1, t2⟩
    all_goals
      go_enter Try.func7, Try.ntmps7
      go_wp2_with fail
      refine HW.out.mono ?_
      rintro e w1 ⟨rfl, hw1⟩
      obtain rfl : w = w1 := hw1.symm
      clear hw1
      go_wp2_with fail
      refine (head_any _).mono ?_
      rintro e w6 ⟨rfl, hf6⟩
      have HF6 := hid hf6
      clear hf6
      go_wp2_with fail
      go_ret
      exact ⟨rfl, HF6.out⟩
  · have hl1 : 1 ≤ rs.length := by omega
    have hl2 : rs.length ≤ 200 := by omega
    have t1 : ¬ (rs.length : Int) < 1 := by omega
    have t2 : ¬ 200 < (rs.length : Int) := by omega
    clear hlen
    have HN := hid (fun W : World => new_ok hn1 hn8 W)
    have HWT := hid (fun W : World => within_any trn (rs.length : Int) (by omega) (by omega) W)
    obtain ⟨k, hk⟩ : ∃ k : Nat, (k : Int) = trn % (rs.length : Int) := ⟨(trn % (rs.length : Int)).toNat, by have := Int.emod_nonneg trn (show (rs.length : Int) ≠ 0 by omega); omega⟩
    have hkl : k < rs.length := by have := Int.emod_lt_of_pos trn (show 0 < (rs.length : Int) by omega); omega
    rw [← hk] at HWT
    clear hk
    go_enter Try.func7, Try.ntmps7
    go_wp2_with fail
    refine HW.out.mono ?_
    rintro e w1 ⟨rfl, hw1⟩
    obtain rfl : w = w1 := hw1.symm
    clear hw1 HW
    go_wp2_with fail
    refine (HN.out _).mono ?_
    rintro e w1 ⟨B, g, rfl, hK, hB, hg, hf⟩
    have HK := hid hK
    have HF := hid hf
    have HBG := hid (And.intro hB hg)
    clear hK hf hB hg
    go_wp2_with fail
    refine (HN.out _).mono ?_
    rintro e w2 ⟨B2, g2, rfl, hK2, hB2, hg2, hf2⟩
    have HP : Hid (PA w B g B2 g2 (List.replicate n noM) (List.replicate n noM) w2) := by
      have hz := HF.out.size
      have h1 := HK.out.lt
      exact ⟨HK.out.fr hf2 (fun h => h) (fun h => h), hK2, by omega, ⟨HBG.out.1, HBG.out.2, by omega, by omega⟩, HF.out.trans hf2⟩
    clear hK2 hB2 hg2 hf2 HK HF HBG HN
    have HM0 : Hid ((List.replicate n noM).length = n) := by show _ = _; simp
    generalize List.replicate n noM = m0 at *
    go_wp2_with fail
    go_loopg [16] rs.length (fun q s16 wx => ∃ i : Nat, s16 = .int .i64 (i : Int) ∧ Hid (i + q = rs.length) ∧ Hid (((rs.take i).foldl (rsF n) m0).length = n) ∧ Hid (PA w B g B2 g2 ((rs.take i).foldl (rsF n) m0) m0 wx))
    case atStart => exact ⟨0, rfl, by show _ = _; omega, HM0, HP⟩
    case round =>
      obtain ⟨i, rfl, HG, HLN, HP1⟩ := hrel
      clear HP
      cases gk with
      | succ q =>
        have hi : i < rs.length := by have := HG.out; omega
        have u1 : (i : Int) < (rs.length : Int) := by omega
        obtain ⟨b, off, rfl, _, _⟩ := (HRS.out.fr HP1.out.fr).at hi
        have HCL : Hid (∀ W : World, Fr w W (fun _ => False) → W.cell? ⟨b, off + i * 2, none⟩ = some (.int .i64 (rs.getD i rq0).s) ∧ W.cell? ⟨b, off + i * 2 + 1, none⟩ = some (.int .i64 (rs.getD i rq0).t) ∧ b < W.heap.size) := fun W hW => by
          obtain ⟨b', off', e, h1, h2⟩ := (HRS.out.fr hW).at hi
          simp only [Option.some.injEq, Addr.mk.injEq, and_true] at e
          obtain ⟨rfl, rfl⟩ := e
          exact ⟨h1, h2, World.block_lt_of_cell? W _ h1⟩
        have HTK := hid (fold_take hi n m0)
        generalize (rs.take i).foldl (rsF n) m0 = ms at *
        have HRF := hid (rsF_rise hn1 HLN.out (rs.getD i rq0))
        have HLN2 := hid ((rsF_len n ms (rs.getD i rq0)).trans HLN.out)
        have HI := hid hi
        clear hi
        have HWI := hid (fun W : World => within_fr (rs.getD i rq0).s (n : Int) (by omega) (by omega) W)
        have HRI := hid (fun (W : World) (hW : PA w B g B2 g2 ms m0 W) => rise_any hW.k1 ((rs.getD i rq0).s % (n : Int)) ((rs.getD i rq0).t.tmod 1152921504606846976))
        rw [HRF.out] at HRI
        generalize rsF n ms (rs.getD i rq0) = ms' at *
        generalize riseR ms ((rs.getD i rq0).s % (n : Int)) ((rs.getD i rq0).t.tmod 1152921504606846976) = rr at *
        generalize (rs.getD i rq0).s = sx at *
        generalize (rs.getD i rq0).t = tx at *
        clear HRF
        generalize sx % (n : Int) = sy at *
        go_upto_region 12 with (fail)
        have HS := hid HP1.out.fr
        go_region_held3 (fun W' => Hid (Fr w W' (fun _ => False)) ∧ W'.cell? ⟨b, off + i * 2, none⟩ = some (.int .i64 sx) ∧ W'.cell? ⟨b, off + i * 2 + 1, none⟩ = some (.int .i64 tx) ∧ b < W'.heap.size)
          ((refine (fun hh => ⟨hh, HCL.out _ hh⟩ : Fr w _ (fun _ => False) → _) ?_; first | exact HS.out | exact HS.out.drew | exact HS.out.drew.drew))
          ((first
            | (go_at_call 24; refine (HWI.out _).mono ?_; rintro e w9 ⟨rfl, hf9⟩; have HPX := hid ((by first | exact HP1.out | exact HP1.out.drew : PA w B g B2 g2 ms m0 _).step hf9); clear hf9 HP1 HS; have HP1 := HPX; have HS := hid HP1.out.fr; clear HPX)
            | (go_at_call 13; refine (HRI.out _ (by first | exact HP1.out | exact HP1.out.drew)).mono ?_; rintro e w9 ⟨rfl, hk9, hf9⟩; have HP2 := hid ((by first | exact HP1.out | exact HP1.out.drew : PA w B g B2 g2 ms m0 _).rise1 hk9 hf9); clear hk9 hf9 HS; have HS := hid HP2.out.fr)))
        go_wp2_with fail
        go_roundg q
        case measure => omega
        case rel => exact ⟨i + 1, by go_num, by have := HG.out; show _ = _; omega, by rw [HTK.out]; exact HLN2, by rw [HTK.out]; first | exact HP2 | exact hid HP2.out.drew⟩
      | zero =>
        have u1 : ¬ (i : Int) < (rs.length : Int) := by have := HG.out; omega
        have e3 : (rs.take i).foldl (rsF n) m0 = rs.foldl (rsF n) m0 := by rw [List.take_of_length_le (by have := HG.out; omega)]
        rw [e3] at HP1
        have HRF := hid (rot_fold hkl n m0)
        clear e3 HLN HG
        generalize hMA : rs.foldl (rsF n) m0 = MA at *
        clear hMA
        go_wp2_with fail
        refine (HWT.out _).mono ?_
        rintro e w3 ⟨rfl, hw3⟩
        obtain rfl : wr = w3 := hw3.symm
        clear hw3 HWT u1
        go_wp2_with fail
        generalize wr = W0 at *
        go_loopg [17, 18] rs.length (fun q s17 s18 wx => ∃ i : Nat, s17 = .int .i64 (i : Int) ∧ Hid (i + q = rs.length) ∧ Hid (((rot rs k i).foldl (rsF n) m0).length = n) ∧ Hid (PA w B g B2 g2 MA ((rot rs k i).foldl (rsF n) m0) wx))
        case atStart => exact ⟨0, rfl, by show _ = _; omega, HM0, HP1⟩
        case round =>
          obtain ⟨i, rfl, HG, HLN, HP2⟩ := hrel
          clear HP1
          cases gk with
          | succ q =>
            have hi : i < rs.length := by have := HG.out; omega
            have u1 : (i : Int) < (rs.length : Int) := by omega
            have hql : (i + k) % rs.length < rs.length := Nat.mod_lt _ (by omega)
            have hrm := rem_run (i + k) rs.length (by omega)
            have e4 : ((i + k : Nat) : Int) = (i : Int) + (k : Int) := by omega
            rw [e4] at hrm
            have HTK : Hid ((rot rs k (i + 1)).foldl (rsF n) m0 = rsF n ((rot rs k i).foldl (rsF n) m0) (rs.getD ((i + k) % rs.length) rq0)) := by show _ = _; rw [rot_succ, List.foldl_append]; rfl
            have hi2 : i ≤ 200 := by omega
            have hk2 : k ≤ 200 := by omega
            obtain ⟨b, off, rfl, c0, c1⟩ := (HRS.out.fr HP2.out.fr).at hql
            have hbl : b < wr.heap.size := World.block_lt_of_cell? wr _ c0
            generalize (rot rs k i).foldl (rsF n) m0 = ns at *
            have HRF2 := hid (rsF_rise hn1 HLN.out (rs.getD ((i + k) % rs.length) rq0))
            have HLN2 := hid ((rsF_len n ns (rs.getD ((i + k) % rs.length) rq0)).trans HLN.out)
            clear e4 hi
            have HWI := hid (fun W : World => within_fr (rs.getD ((i + k) % rs.length) rq0).s (n : Int) (by omega) (by omega) W)
            have HRI := hid (fun (W : World) (hW : PA w B g B2 g2 MA ns W) => rise_any hW.k2 ((rs.getD ((i + k) % rs.length) rq0).s % (n : Int)) ((rs.getD ((i + k) % rs.length) rq0).t.tmod 1152921504606846976))
            rw [HRF2.out] at HRI
            generalize rsF n ns (rs.getD ((i + k) % rs.length) rq0) = ns' at *
            generalize riseR ns ((rs.getD ((i + k) % rs.length) rq0).s % (n : Int)) ((rs.getD ((i + k) % rs.length) rq0).t.tmod 1152921504606846976) = rr at *
            generalize (rs.getD ((i + k) % rs.length) rq0).s = sx at *
            generalize (rs.getD ((i + k) % rs.length) rq0).t = tx at *
            clear HRF2
            generalize sx % (n : Int) = sy at *
            have hm0 : (0 : Int) ≤ ((i : Int) + (k : Int)) % (rs.length : Int) := Int.emod_nonneg _ (by omega)
            have hm1 : ((i : Int) + (k : Int)) % (rs.length : Int) < (rs.length : Int) := Int.emod_lt_of_pos _ (by omega)
            go_upto_region 18 with (fail)
            clear hm0 hm1 hrm
            have HP3 : Hid (PA w B g B2 g2 MA ns (wr.alloc (.cells #[.int .i64 sx, .int .i64 tx] 36))) := HP2.out.step (alloc_fr _ _ _)
            have HNB : Hid ((wr.alloc (.cells #[.int .i64 sx, .int .i64 tx] 36)).heap[wr.heap.size]? = some (.cells #[.int .i64 sx, .int .i64 tx] 36 (0, 0))) := heap_last _ _ _ rfl
            generalize (wr.alloc (.cells #[.int .i64 sx, .int .i64 tx] 36)) = w2' at *
            generalize wr.heap.size = N at *
            clear HP2 c0 c1 hbl
            have HNC : Hid (∀ W : World, W.heap[N]? = some (.cells #[.int .i64 sx, .int .i64 tx] 36 (0, 0)) → Hid (W.heap[N]? = some (.cells #[.int .i64 sx, .int .i64 tx] 36 (0, 0))) ∧ W.cell? ⟨N, 0, none⟩ = some (.int .i64 sx) ∧ W.cell? ⟨N, 1, none⟩ = some (.int .i64 tx) ∧ N < W.heap.size) := fun W hb => by
              refine ⟨hb, ?_, ?_, lt_of_block hb⟩ <;> simp [World.cell?, hb]
            go_region_held3 (fun W' => Hid (W'.heap[N]? = some (.cells #[.int .i64 sx, .int .i64 tx] 36 (0, 0))) ∧ W'.cell? ⟨N, 0, none⟩ = some (.int .i64 sx) ∧ W'.cell? ⟨N, 1, none⟩ = some (.int .i64 tx) ∧ N < W'.heap.size)
              ((refine HNC.out _ ?_; exact HNB.out))
              ((first
                | (go_at_call 24; refine (HWI.out _).mono ?_; rintro e w9 ⟨rfl, hf9⟩; have HNB9 := hid (show w9.heap[N]? = _ from (hf9.block N (lt_of_block HNB.out) (fun h => h)).trans HNB.out); have HPX := hid ((by first | exact HP3.out | exact HP3.out.drew : PA w B g B2 g2 MA ns _).step hf9); clear hf9 HP3 HNB; have HP3 := HPX; have HNB := HNB9; clear HPX HNB9)
                | (go_at_call 13; refine (HRI.out _ (by first | exact HP3.out | exact HP3.out.drew)).mono ?_; rintro e w9 ⟨rfl, hk9, hf9⟩; have HNB9 := hid (show w9.heap[N]? = _ from (hf9.block N (lt_of_block HNB.out) (fun h => rise_ne HP3.out.k2 HNB.out h)).trans HNB.out); have HP4 := hid ((by first | exact HP3.out | exact HP3.out.drew : PA w B g B2 g2 MA ns _).rise2 hk9 hf9); clear hk9 hf9 HNB; have HNB := HNB9; clear HNB9)))
            go_wp2_with fail
            go_roundg q
            case measure => omega
            case rel => exact ⟨i + 1, by go_num, by have := HG.out; show _ = _; omega, by rw [HTK.out]; exact HLN2, by rw [HTK.out]; first | exact HP4 | exact hid HP4.out.drew⟩
          | zero =>
            have u1 : ¬ (i : Int) < (rs.length : Int) := by have := HG.out; omega
            have e3 : (rot rs k i).foldl (rsF n) m0 = MA := by rw [show i = rs.length by have := HG.out; omega]; exact HRF.out
            rw [e3] at HP2
            clear e3 HLN HG HRF HM0
            have HL1 := hid (fun (W : World) (hW : PA w B g B2 g2 MA MA W) => least_any hW.k1)
            have HL2 := hid (fun (W : World) (hW : PA w B g B2 g2 MA MA W) => least_any hW.k2)
            have HO1 := hid (fun (W : World) (hW : PA w B g B2 g2 MA MA W) (t : Int) => mopen_any hW.k1 (HVS.out.fr hW.fr (fun _ _ _ _ _ h => h)) t)
            have HO2 := hid (fun (W : World) (hW : PA w B g B2 g2 MA MA W) (t : Int) => mopen_any hW.k2 (HVS.out.fr hW.fr (fun _ _ _ _ _ h => h)) t)
            generalize leastL MA = LL at *
            go_wp2_with fail
            refine (HL1.out _ HP2.out).mono ?_
            rintro e w4 ⟨rfl, hf4⟩
            have HP5 := hid (HP2.out.step hf4)
            clear hf4 HP2
            go_wp2_with fail
            refine (HL2.out _ HP5.out).mono ?_
            rintro e w5 ⟨rfl, hf5⟩
            have HP6 := hid (HP5.out.step hf5)
            clear hf5 HP5 HL1 HL2
            go_wp2_with fail
            go_loopg [19, 20, 21, 22, 23, 24, 25] (min ts.length 20) (fun q s19 s20 s21 s22 s23 s24 s25 wx => ∃ i : Nat, s19 = .int .i64 (i : Int) ∧ Hid (i + q = min ts.length 20) ∧ Hid (PA w B g B2 g2 MA MA wx))
            case atStart => exact ⟨0, rfl, by show _ = _; omega, HP6⟩
            case round =>
              obtain ⟨i, rfl, HG, HP7⟩ := hrel
              clear HP6
              cases gk with
              | zero =>
                have hc : ¬ (i : Int) < (ts.length : Int) ∨ ((i : Int) < (ts.length : Int) ∧ ¬ (i : Int) < 20) := by have := HG.out; omega
                rcases hc with t1 | ⟨t1, t2⟩
                all_goals
                  go_wp2_with fail
                  refine (head_any _).mono ?_
                  rintro e w6 ⟨rfl, hf6⟩
                  have HS6 := hid (HP7.out.step hf6)
                  clear hf6
                  go_wp2_with fail
                  go_ret
                  exact ⟨rfl, HS6.out.fr⟩
              | succ q =>
                have hi : i < ts.length := by have := HG.out; omega
                have t3 : (i : Int) < (ts.length : Int) := by omega
                have t4 : (i : Int) < 20 := by have := HG.out; omega
                obtain ⟨b, off, rfl, c0, _⟩ := (HTS.out.fr HP7.out.fr).at hi
                have HCL : Hid (∀ W : World, Fr w W (fun _ => False) → W.cell? ⟨b, off + i, none⟩ = some (.int .i64 (ts.getD i 0)) ∧ b < W.heap.size) := fun W hW => by
                  obtain ⟨b', off', e, h1, h2⟩ := (HTS.out.fr hW).at hi
                  simp only [Option.some.injEq, Addr.mk.injEq, and_true] at e
                  obtain ⟨rfl, rfl⟩ := e
                  exact ⟨h1, World.block_lt_of_cell? W _ h1⟩
                generalize ts.getD i 0 = tt at *
                have hbl := (HCL.out _ HP7.out.fr).2
                have HI := hid hi
                clear hi
                have HLEN := hid (opnL_len vs LL tt)
                have hO1 := HO1.out
                go_wp2_with fail
                refine (HO1.out _ HP7.out tt).mono ?_
                rintro e w6 ⟨x1, rfl, hco1, hf6⟩
                have HP8 := hid (HP7.out.step hf6)
                have HC1 := hid (hco1.cr HLEN.out)
                obtain ⟨ao1, rfl⟩ := hco1.shape
                clear hco1 hf6 HP7 c0 hbl
                obtain ⟨c0, hbl⟩ := HCL.out _ HP8.out.fr
                go_wp2_with fail
                refine (HO2.out _ HP8.out tt).mono ?_
                rintro e w7 ⟨x2, rfl, hco2, hf7⟩
                have HP9 := hid (HP8.out.step hf7)
                have HC2 := hid (hco2.cr HLEN.out)
                have HC3 := hid (HC1.out.fr hf7)
                obtain ⟨ao2, rfl⟩ := hco2.shape
                clear hco2 hf7 HP8 c0 hbl HC1 hO1
                have HSM := hid (same_true HC3.out HC2.out)
                generalize opnB vs LL tt = ob at *
                generalize chkN vs tt = oc at *
                generalize (opnL vs LL tt).length = ol at *
                go_wp2_with fail
                refine HSM.out.mono ?_
                rintro e w8 ⟨rfl, hf8⟩
                have HPa := hid (HP9.out.step hf8)
                clear hf8 HP9 HSM HC2 HC3
                go_wp2_with fail
                go_roundg q
                case measure => omega
                case rel => exact ⟨i + 1, by go_num, by have := HG.out; show _ = _; omega, HPa⟩
end Go.Proofs.Ytfmhdpenodmblaa
