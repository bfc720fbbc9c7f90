/- OperOrders: the walk. -/
import Derived.Test.YtbbmmepkookadaaVKnown
import Derived.Test.YtbbmmepkookadaaVArgs
import Derived.Test.YtbbmmepkookadaaVOrdP
namespace Go.Proofs.Ytbbmmepkookadaa.V
open Go.RowKit Go.Maps
open M (Cl cmpC vC)

/-- Two operators without live cells, apart. -/
structure P2 (w : World) (x y : Ox) (vs : List Vw) (ms ns : List Int) (W : World) : Prop where
  a : Op W x vs ms []
  b : Op W y vs ns []
  ap : ∃ n, (x.B < n ∧ x.mb < n ∧ x.Bm < n ∧ x.gm < n ∧ x.gv < n) ∧ Beh n y
  bx : Beh w.heap.size x
  by' : Beh w.heap.size y
  fr : Fr w W (fun _ => False)
theorem P2.step {w : World} {x y : Ox} {vs : List Vw} {ms ns : List Int} {W W' : World} (p : P2 w x y vs ms ns W) (hf : Fr W W' (fun _ => False)) : P2 w x y vs ms ns W' := ⟨p.a.step hf, p.b.step hf, p.ap, p.bx, p.by', p.fr.trans hf⟩
theorem P2.drew {w : World} {x y : Ox} {vs : List Vw} {ms ns : List Int} {W : World} (p : P2 w x y vs ms ns W) : P2 w x y vs ms ns W.drew := p.step (Fr.refl W _).drew
theorem P2.mark1 {w : World} {x y : Ox} {vs : List Vw} {ms ns : List Int} {W : World} (p : P2 w x y vs ms ns W) (s t : Int) : Calls Try.prog 28 #[.pointer (some ⟨x.B, 0, none⟩), .int .i64 s, .int .i64 t] W fun e w' => ∃ u n, e = .returned (.tuple #[u, .int .i64 n]) ∧ P2 w x y vs (riseS ms s t) ns w' := by
  refine (mark_any p.a (by decide) s t).mono ?_
  rintro e w' ⟨u, rfl, _, hop, hf⟩
  obtain ⟨n, ⟨a1, a2, a3, a4, a5⟩, b1, b2, b3, b4, b5⟩ := p.ap
  have hbx := p.bx
  unfold Beh at hbx
  exact ⟨u, _, rfl, hop, p.b.fr hf (by omega) (by omega) (by omega) (by omega) (by omega), p.ap, p.bx, p.by', fr_behind p.fr hf (fun k e => by omega)⟩
theorem P2.mark2 {w : World} {x y : Ox} {vs : List Vw} {ms ns : List Int} {W : World} (p : P2 w x y vs ms ns W) (s t : Int) : Calls Try.prog 28 #[.pointer (some ⟨y.B, 0, none⟩), .int .i64 s, .int .i64 t] W fun e w' => ∃ u n, e = .returned (.tuple #[u, .int .i64 n]) ∧ P2 w x y vs ms (riseS ns s t) w' := by
  refine (mark_any p.b (by decide) s t).mono ?_
  rintro e w' ⟨u, rfl, _, hop, hf⟩
  obtain ⟨n, ⟨a1, a2, a3, a4, a5⟩, b1, b2, b3, b4, b5⟩ := p.ap
  have hby := p.by'
  unfold Beh at hby
  exact ⟨u, _, rfl, p.a.fr hf (by omega) (by omega) (by omega) (by omega) (by omega), hop, p.ap, p.bx, p.by', fr_behind p.fr hf (fun k e => by omega)⟩
theorem P2.congr {w : World} {x y : Ox} {vs : List Vw} {ms ns ms' ns' : List Int} {W : World} (p : P2 w x y vs ms ns W) (h1 : ms = ms') (h2 : ns = ns') : P2 w x y vs ms' ns' W := by subst h1 h2; exact p

set_option maxHeartbeats 16000000 in
set_option maxRecDepth 100000 in
theorem orders_walk {w : World} {v0 v2 : Value} {vs : List Vw} {rs : List Rq} (src : Int) (key : ByteArray) (tm : Int) (hv : Vs w v0 vs) (hs : Sq w v2 rs) : Calls Try.prog 6 #[v0, .int .i64 src, v2, .string key, .int .i64 tm] w fun e w' => e = .returned (.bool true) ∧ Fr w w' (fun _ => False) := by
  have HV := hid hv
  have HS := hid hs
  obtain ⟨ao, cap, rfl, hvl, _⟩ := id hv
  obtain ⟨bo, cap2, rfl, hrl, _⟩ := id hs
  clear hv hs
  by_cases hok : rightVs vs = true ∧ (1 ≤ src ∧ src ≤ 8)
  case neg =>
    have HNE : Hid (∃ en : Int, ∀ W : World, Fr w W (fun _ => False) → Calls Try.prog 11 #[.slice ao vs.length cap, .int .i64 src] W fun e w' => e = .returned (.tuple #[.pointer none, .int .i64 en]) ∧ Fr W w' (fun _ => False)) := by
      rcases hr : rightVs vs with _ | _
      · exact ⟨24, fun W hW => onew_bad (HV.out.fr hW (fun _ _ _ _ _ h => h)) hr src⟩
      · exact ⟨1, fun W hW => onew_arg (HV.out.fr hW (fun _ _ _ _ _ h => h)) hr (fun h => hok ⟨hr, h⟩)⟩
    obtain ⟨en, hne⟩ := HNE.out
    have HN := hid hne
    clear HNE hne hok
    go_enter Try.func6, Try.ntmps6
    go_wp2_with fail
    refine (known_any _).mono ?_
    rintro e w1 ⟨rfl, hf⟩
    have HF := hid hf
    clear hf
    go_wp2_with fail
    refine (HN.out _ HF.out).mono ?_
    rintro e w2 ⟨rfl, hf⟩
    have HF2 := hid (HF.out.trans hf)
    clear hf
    go_wp2_with fail
    refine (HN.out _ HF2.out).mono ?_
    rintro e w3 ⟨rfl, hf⟩
    have HF3 := hid (HF2.out.trans hf)
    clear hf
    go_wp2_with fail
    go_ret
    exact ⟨rfl, HF3.out⟩
  case pos =>
    obtain ⟨hr, hn1, hn8⟩ := hok
    obtain ⟨n, rfl⟩ : ∃ n : Nat, src = (n : Int) := ⟨src.toNat, by omega⟩
    have h1 : 1 ≤ n := by omega
    have h8 : n ≤ 8 := by omega
    have HN := hid (fun (W : World) (hW : Fr w W (fun _ => False)) => onew_ok (HV.out.fr hW (fun _ _ _ _ _ h => h)) hr h1 h8)
    obtain ⟨qs, hqs⟩ : ∃ qs, qs = rs.take 200 := ⟨_, rfl⟩
    have HQG : Hid (∀ i, i < qs.length → qs.getD i rq0 = rs.getD i rq0) := fun i hi => by
      subst hqs
      have h2 : i < 200 := by simp at hi; omega
      simp [List.getD, h2]
    have hql : (200 < rs.length ∧ qs.length = 200) ∨ (¬ 200 < rs.length ∧ qs.length = rs.length) := by subst hqs; simp; omega
    clear hqs hr hn1 hn8
    rcases hql with ⟨hq1, hq2⟩ | ⟨hq1, hq2⟩
    · have t0 : (200 : Int) < (rs.length : Int) := by omega
      have hql2 : qs.length ≤ rs.length := by omega
      have hq200 : qs.length ≤ 200 := by omega
      have HQL := hid hq2
      clear hq1 hq2
      go_enter Try.func6, Try.ntmps6
      go_wp2_with fail
      refine (known_any _).mono ?_
      rintro e w1 ⟨rfl, hf⟩
      have HF := hid hf
      clear hf
      go_wp2_with fail
      refine (HN.out _ HF.out).mono ?_
      rintro e w2 ⟨x, rfl, hopx, hbx, hf⟩
      have HOX := hid hopx
      have HBX := hid (show Beh w.heap.size x by have := HF.out.size; unfold Beh; omega)
      have HF2 := hid (HF.out.trans hf)
      clear hopx hbx hf
      go_wp2_with fail
      refine (HN.out _ HF2.out).mono ?_
      rintro e w3 ⟨y, rfl, hopy, hby, hf⟩
      have HP : Hid (P2 w x y vs (St n (fun j => top (qs.take 0) j)) (St n (fin qs n)) w3) := by
        have hz := HF2.out.size
        obtain ⟨rx, hrx⟩ := HOX.out.row
        have e1 : List.replicate n noM = St n (fun j => top (qs.take 0) j) := by rw [st_rep]; rfl
        have e2 : List.replicate n noM = St n (fin qs n) := by
          rw [st_rep]
          exact st_ext (fun j hj => by unfold fin; rw [if_neg (by omega)])
        have l1 := lt_of_block HOX.out.cell
        have l2 := HOX.out.map.lt
        have l3 := HOX.out.marks.lt
        have l4 := hrx.lt
        refine P2.congr ⟨HOX.out.step hf, hopy, ⟨w2.heap.size, ⟨l1, l2, l3.1, l3.2, l4⟩, hby⟩, HBX.out, by unfold Beh; omega, HF2.out.trans hf⟩ e1 e2
      clear hopy hby hf HOX HBX HF2 HN
      go_wp2_with fail
      go_loopg [16] qs.length (fun q s16 wx => ∃ i : Nat, s16 = .int .i64 (i : Int) ∧ Hid (i + q = qs.length) ∧ Hid (P2 w x y vs (St n (fun j => top (qs.take i) j)) (St n (fin qs n)) wx))
      case atStart => exact ⟨0, rfl, by show _ = _; omega, HP⟩
      case round =>
        obtain ⟨i, rfl, HG, HP1⟩ := hrel
        clear HP
        cases gk with
        | succ q =>
          have hi : i < qs.length := by have := HG.out; omega
          have u1 : (i : Int) < 200 := by have := HQL.out; omega
          have u2 : (i : Int) < (rs.length : Int) := by omega
          obtain ⟨b, off, rfl, _, _⟩ := (HS.out.step HP1.out.fr).at (i := i) (by omega)
          have HCL : Hid (∀ W : World, Fr w W (fun _ => False) → Hid (Fr w W (fun _ => False)) ∧ W.cell? ⟨b, off + i * 6 + 1, none⟩ = some (.int .i64 (qs.getD i rq0).s) ∧ W.cell? ⟨b, off + i * 6 + 3, none⟩ = some (.int .i64 (qs.getD i rq0).t) ∧ b < W.heap.size) := fun W hW => by
            obtain ⟨b', off', e, h1, h2⟩ := (HS.out.step hW).at (i := i) (by omega)
            simp only [Option.some.injEq, Addr.mk.injEq, and_true] at e
            obtain ⟨rfl, rfl⟩ := e
            rw [HQG.out i hi]
            exact ⟨hW, h1, h2, World.block_lt_of_cell? W _ h1⟩
          have HTK : Hid (St n (up1 (fun j => top (qs.take i) j) (qs.getD i rq0).s (qs.getD i rq0).t) = St n (fun j => top (qs.take (i + 1)) j)) := st_ext (fun j _ => (top_take hi j).symm)
          have HI := hid hi
          clear hi
          generalize (qs.getD i rq0).s = sx at *
          generalize (qs.getD i rq0).t = tx at *
          have HRI := hid (fun (W : World) (hW : P2 w x y vs (St n (fun j => top (qs.take i) j)) (St n (fin qs n)) W) => hW.mark1 sx tx)
          rw [rise_st, HTK.out] at HRI
          go_upto_region 15 with (fail)
          have HSS := hid HP1.out.fr
          go_region_held3 (fun W' => Hid (Fr w W' (fun _ => False)) ∧ W'.cell? ⟨b, off + i * 6 + 1, none⟩ = some (.int .i64 sx) ∧ W'.cell? ⟨b, off + i * 6 + 3, none⟩ = some (.int .i64 tx) ∧ b < W'.heap.size)
            ((refine HCL.out _ ?_; first | exact HSS.out | exact HSS.out.drew | exact HSS.out.drew.drew))
            ((go_at_call 28; refine (HRI.out _ (by first | exact HP1.out | exact HP1.out.drew)).mono ?_; rintro e w9 ⟨uu, nn, rfl, hp9⟩; have HP2 := hid hp9; clear hp9 HSS; have HSS := hid HP2.out.fr))
          go_wp2_with fail
          go_roundg q
          case measure => omega
          case rel => exact ⟨i + 1, by go_num, by have := HG.out; show _ = _; omega, by first | exact HP2 | exact hid HP2.out.drew⟩
        | zero =>
          have u1 : ¬ (i : Int) < 200 := by have := HG.out; have := HQL.out; omega
          have HP2 : Hid (P2 w x y vs (St n (fun j => top qs j)) (St n (fin qs n)) wr) := by
            have := HP1.out
            rw [List.take_of_length_le (by have := HG.out; omega)] at this
            exact this
          clear HP1 HG
          have wn : IntKind.i64.wrap ((n : Int) - 1) = (n : Int) - 1 := wrap_fit (by unfold fits; omega)
          go_wp2_with fail
          generalize wr = W0 at *
          clear u1
          go_loopg [17, 18, 19] n (fun q s17 s18 s19 wx => s17 = .int .i64 ((q : Int) - 1) ∧ Hid (q ≤ n) ∧ Hid (P2 w x y vs (St n (fun j => top qs j)) (St n (fin qs q)) wx))
          case atStart => exact ⟨rfl, Nat.le_refl _, HP2⟩
          case round =>
            obtain ⟨rfl, HQ, HP3⟩ := hrel
            clear HP2
            cases gk with
            | zero =>
              have e0 : ((0 : Nat) : Int) - 1 = -1 := rfl
              rw [e0]
              have HP4 : Hid (P2 w x y vs (St n (fun j => top qs j)) (St n (fun j => top qs j)) wr) := HP3.out.congr rfl (st_ext (fun j _ => by unfold fin; rw [if_pos (Nat.zero_le _)]))
              clear HP3 e0 HQ
              generalize St n (fun j => top qs j) = mm at *
              have HSM := hid (takeL_small (m := leastL mm) (t := tm) (k := key) HP4.out.a.okv HP4.out.a.four)
              go_wp2_with fail
              refine (take_any HP4.out.a key tm).mono ?_
              rintro e w4 ⟨ua, rfl, hka, hf⟩
              have HP5 := hid (HP4.out.step hf)
              have HKA := hid (hka.ks (by have := HSM.out; omega))
              obtain ⟨aoa, rfl⟩ := hka.shape
              clear hka hf HP4
              go_wp2_with fail
              refine (take_any HP5.out.b key tm).mono ?_
              rintro e w5 ⟨ub, rfl, hkb, hf⟩
              have HP6 := hid (HP5.out.step hf)
              have HKA2 := hid (HKA.out.step hf)
              have HKB := hid (hkb.ks (by have := HSM.out; omega))
              obtain ⟨aob, rfl⟩ := hkb.shape
              clear hkb hf HP5 HKA
              go_wp2_with fail
              refine (oleast_any HP6.out.a).mono ?_
              rintro e w6 ⟨rfl, hf⟩
              have HP7 := hid (HP6.out.step hf)
              have HKA3 := hid (HKA2.out.step hf)
              have HKB3 := hid (HKB.out.step hf)
              clear hf HP6 HKA2 HKB
              go_wp2_with fail
              refine (oleast_any HP7.out.b).mono ?_
              rintro e w7 ⟨rfl, hf⟩
              have HP8 := hid (HP7.out.step hf)
              have HKA4 := hid (HKA3.out.step hf)
              have HKB4 := hid (HKB3.out.step hf)
              clear hf HP7 HKA3 HKB3
              generalize leastL mm = lm at *
              go_wp2_with fail
              refine (ksame_true HKA4.out HKB4.out).mono ?_
              rintro e w8 ⟨rfl, hf⟩
              have HF8 := hid (HP8.out.fr.trans hf)
              clear hf
              go_wp2_with fail
              go_ret
              exact ⟨rfl, HF8.out⟩
            | succ s =>
              have e0 : ((s + 1 : Nat) : Int) - 1 = (s : Int) := by omega
              rw [e0]
              have hs8 : s < n := by have := HQ.out; omega
              have ws : IntKind.i64.wrap ((s : Int) - 1) = (s : Int) - 1 := wrap_fit (by unfold fits; omega)
              have HP4 : Hid (P2 w x y vs (St n (fun j => top qs j)) (St n (mid qs s 0)) wr) := HP3.out.congr rfl (st_ext (fun j _ => (mid_zero qs s j).symm))
              clear HP3 e0
              go_wp2_with fail
              generalize wr = W1 at *
              go_loopg [18] qs.length (fun q s18 wx => ∃ i : Nat, s18 = .int .i64 (i : Int) ∧ Hid (i + q = qs.length) ∧ Hid (P2 w x y vs (St n (fun j => top qs j)) (St n (mid qs s i)) wx))
              case atStart => exact ⟨0, rfl, by show _ = _; omega, HP4⟩
              case round =>
                obtain ⟨i, rfl, HG, HP5⟩ := hrel
                clear HP4
                cases gk with
                | succ q =>
                  have hi : i < qs.length := by have := HG.out; omega
                  have u1 : (i : Int) < 200 := by have := HQL.out; omega
                  have u2 : (i : Int) < (rs.length : Int) := by omega
                  obtain ⟨b, off, rfl, c1, c3⟩ := (HS.out.step HP5.out.fr).at (i := i) (by omega)
                  rw [← HQG.out i hi] at c1 c3
                  have hbl : b < wr.heap.size := World.block_lt_of_cell? wr _ c1
                  by_cases hsx : (qs.getD i rq0).s = (s : Int)
                  · have HRI := hid (HP5.out.mark2 (s : Int) (qs.getD i rq0).t)
                    rw [rise_st, st_ext (fun j _ => mid_step hi hsx j)] at HRI
                    rw [hsx] at c1
                    have HI := hid hi
                    clear hi hsx
                    generalize (qs.getD i rq0).t = tx at *
                    go_wp2_with fail
                    refine HRI.out.mono ?_
                    rintro e w9 ⟨uu, nn, rfl, hp9⟩
                    have HP6 := hid hp9
                    clear hp9
                    go_wp2_with fail
                    go_roundg q
                    case measure => omega
                    case rel => exact ⟨i + 1, by go_num, by have := HG.out; show _ = _; omega, HP6⟩
                  · have HP6 : Hid (P2 w x y vs (St n (fun j => top qs j)) (St n (mid qs s (i + 1))) wr) := HP5.out.congr rfl (st_ext (fun j _ => mid_skip hi hsx j))
                    have HI := hid hi
                    clear hi HP5
                    generalize (qs.getD i rq0).t = tx at *
                    generalize (qs.getD i rq0).s = sx at *
                    have q1 : (sx == (s : Int)) = false := by simpa using hsx
                    go_wp2_with fail
                    go_roundg q
                    case measure => omega
                    case rel => exact ⟨i + 1, by go_num, by have := HG.out; show _ = _; omega, HP6⟩
                | zero =>
                  have u1 : ¬ (i : Int) < 200 := by have := HG.out; have := HQL.out; omega
                  have HP6 : Hid (P2 w x y vs (St n (fun j => top qs j)) (St n (fin qs s)) wr) := HP5.out.congr rfl (st_ext (fun j _ => mid_all qs s i (by have := HG.out; omega) j))
                  clear HP5 HG
                  go_wp2_with fail
                  generalize wr = W2 at *
                  clear u1
                  go_loopg [19] qs.length (fun q s19 wx => ∃ i : Nat, s19 = .int .i64 (i : Int) ∧ Hid (i + q = qs.length) ∧ Hid (P2 w x y vs (St n (fun j => top qs j)) (St n (fin qs s)) wx))
                  case atStart => exact ⟨0, rfl, by show _ = _; omega, HP6⟩
                  case round =>
                    obtain ⟨i, rfl, HG, HP7⟩ := hrel
                    clear HP6
                    cases gk with
                    | zero =>
                      have u1 : ¬ (i : Int) < 200 := by have := HG.out; have := HQL.out; omega
                      go_wp2_with fail
                      go_roundg s
                      case measure => omega
                      case rel => exact ⟨rfl, by have := HQ.out; show _ ≤ _; omega, HP7⟩
                    | succ q =>
                      have hi : i < qs.length := by have := HG.out; omega
                      have u1 : (i : Int) < 200 := by have := HQL.out; omega
                      have u2 : (i : Int) < (rs.length : Int) := by omega
                      obtain ⟨b, off, rfl, c1, c3⟩ := (HS.out.step HP7.out.fr).at (i := i) (by omega)
                      rw [← HQG.out i hi] at c1 c3
                      have hbl : b < wr.heap.size := World.block_lt_of_cell? wr _ c1
                      have hmem : qs.getD i rq0 ∈ qs := by
                        have e9 : qs.getD i rq0 = qs[i] := by simp [List.getD, hi]
                        rw [e9]; exact List.getElem_mem hi
                      have HCS : Hid (∀ W : World, Fr wr W (fun _ => False) → W.cell? ⟨b, off + i * 6 + 3, none⟩ = some (.int .i64 (qs.getD i rq0).t) ∧ b < W.heap.size) := fun W hW => by
                        have hr := (fr_rules hW).1 b
                        exact ⟨by rw [hr _ hbl]; exact c3, by have := hW.size; omega⟩
                      by_cases hc : (qs.getD i rq0).s = (s : Int) ∧ -1152921504606846976 < (qs.getD i rq0).t ∧ (qs.getD i rq0).t ≤ 1152921504606846976
                      · obtain ⟨hsx, ht1, ht2⟩ := hc
                        have hti : isT (qs.getD i rq0).t = true := by unfold isT; exact decide_eq_true ⟨by omega, ht2⟩
                        have HRI := hid (HP7.out.mark2 (s : Int) (-1152921504606846976))
                        rw [rise_st, st_ext (fun j _ => fin_same hmem hsx hti (Int.le_of_lt ht1) j rfl)] at HRI
                        have HRJ := hid (fun (W : World) (hW : P2 w x y vs (St n (fun j => top qs j)) (St n (fin qs s)) W) => hW.mark2 (s : Int) (qs.getD i rq0).t)
                        rw [rise_st, st_ext (fun j _ => fin_same hmem hsx hti (Int.le_refl _) j rfl)] at HRJ
                        rw [hsx] at c1
                        have HX := hid (congrArg Rq.t (HQG.out i hi))
                        have HI := hid hi
                        clear hi hsx hmem hti
                        generalize (qs.getD i rq0).t = tx at *
                        go_wp2_with fail
                        refine HRI.out.mono ?_
                        rintro e w9 ⟨uu, nn, rfl, hp9⟩
                        have HP8 := hid hp9
                        clear hp9
                        obtain ⟨b2, off2, e2, d1, d3⟩ := (HS.out.step HP8.out.fr).at (i := i) (by have := HI.out; omega)
                        simp only [Option.some.injEq, Addr.mk.injEq, and_true] at e2
                        obtain ⟨rfl, rfl⟩ := e2
                        rw [← HX.out] at d3
                        clear d1 c1 c3 hbl HCS
                        have hbl : b < w9.heap.size := World.block_lt_of_cell? w9 _ d3
                        go_wp2_with fail
                        refine (HRJ.out _ HP8.out).mono ?_
                        rintro e w10 ⟨uu2, nn2, rfl, hp10⟩
                        have HP9 := hid hp10
                        clear hp10
                        go_wp2_with fail
                        go_roundg s
                        case measure => omega
                        case rel => exact ⟨rfl, by have := HQ.out; show _ ≤ _; omega, HP9⟩
                      · clear hmem HCS
                        have HI := hid hi
                        clear hi
                        generalize (qs.getD i rq0).t = tx at *
                        generalize (qs.getD i rq0).s = sx at *
                        have hc2 : ¬ sx = (s : Int) ∨ (sx = (s : Int) ∧ ¬ -1152921504606846976 < tx) ∨ (sx = (s : Int) ∧ -1152921504606846976 < tx ∧ ¬ tx ≤ 1152921504606846976) := by omega
                        clear hc
                        rcases hc2 with h0 | ⟨rfl, h1⟩ | ⟨rfl, h1, h2⟩
                        · have q1 : (sx == (s : Int)) = false := by simpa using h0
                          go_wp2_with fail
                          go_roundg q
                          case measure => omega
                          case rel => exact ⟨i + 1, by go_num, by have := HG.out; show _ = _; omega, HP7⟩
                        · go_wp2_with fail
                          go_roundg q
                          case measure => omega
                          case rel => exact ⟨i + 1, by go_num, by have := HG.out; show _ = _; omega, HP7⟩
                        · go_wp2_with fail
                          go_roundg q
                          case measure => omega
                          case rel => exact ⟨i + 1, by go_num, by have := HG.out; show _ = _; omega, HP7⟩
    · have t0 : ¬ (200 : Int) < (rs.length : Int) := by omega
      have hql2 : qs.length ≤ rs.length := by omega
      have hq200 : qs.length ≤ 200 := by omega
      have HQL := hid hq2
      clear hq1 hq2
      go_enter Try.func6, Try.ntmps6
      go_wp2_with fail
      refine (known_any _).mono ?_
      rintro e w1 ⟨rfl, hf⟩
      have HF := hid hf
      clear hf
      go_wp2_with fail
      refine (HN.out _ HF.out).mono ?_
      rintro e w2 ⟨x, rfl, hopx, hbx, hf⟩
      have HOX := hid hopx
      have HBX := hid (show Beh w.heap.size x by have := HF.out.size; unfold Beh; omega)
      have HF2 := hid (HF.out.trans hf)
      clear hopx hbx hf
      go_wp2_with fail
      refine (HN.out _ HF2.out).mono ?_
      rintro e w3 ⟨y, rfl, hopy, hby, hf⟩
      have HP : Hid (P2 w x y vs (St n (fun j => top (qs.take 0) j)) (St n (fin qs n)) w3) := by
        have hz := HF2.out.size
        obtain ⟨rx, hrx⟩ := HOX.out.row
        have e1 : List.replicate n noM = St n (fun j => top (qs.take 0) j) := by rw [st_rep]; rfl
        have e2 : List.replicate n noM = St n (fin qs n) := by
          rw [st_rep]
          exact st_ext (fun j hj => by unfold fin; rw [if_neg (by omega)])
        have l1 := lt_of_block HOX.out.cell
        have l2 := HOX.out.map.lt
        have l3 := HOX.out.marks.lt
        have l4 := hrx.lt
        refine P2.congr ⟨HOX.out.step hf, hopy, ⟨w2.heap.size, ⟨l1, l2, l3.1, l3.2, l4⟩, hby⟩, HBX.out, by unfold Beh; omega, HF2.out.trans hf⟩ e1 e2
      clear hopy hby hf HOX HBX HF2 HN
      go_wp2_with fail
      go_loopg [16] qs.length (fun q s16 wx => ∃ i : Nat, s16 = .int .i64 (i : Int) ∧ Hid (i + q = qs.length) ∧ Hid (P2 w x y vs (St n (fun j => top (qs.take i) j)) (St n (fin qs n)) wx))
      case atStart => exact ⟨0, rfl, by show _ = _; omega, HP⟩
      case round =>
        obtain ⟨i, rfl, HG, HP1⟩ := hrel
        clear HP
        cases gk with
        | succ q =>
          have hi : i < qs.length := by have := HG.out; omega
          have u1 : (i : Int) < (rs.length : Int) := by have := HQL.out; omega
          have u2 : (i : Int) < (rs.length : Int) := by omega
          obtain ⟨b, off, rfl, _, _⟩ := (HS.out.step HP1.out.fr).at (i := i) (by omega)
          have HCL : Hid (∀ W : World, Fr w W (fun _ => False) → Hid (Fr w W (fun _ => False)) ∧ W.cell? ⟨b, off + i * 6 + 1, none⟩ = some (.int .i64 (qs.getD i rq0).s) ∧ W.cell? ⟨b, off + i * 6 + 3, none⟩ = some (.int .i64 (qs.getD i rq0).t) ∧ b < W.heap.size) := fun W hW => by
            obtain ⟨b', off', e, h1, h2⟩ := (HS.out.step hW).at (i := i) (by omega)
            simp only [Option.some.injEq, Addr.mk.injEq, and_true] at e
            obtain ⟨rfl, rfl⟩ := e
            rw [HQG.out i hi]
            exact ⟨hW, h1, h2, World.block_lt_of_cell? W _ h1⟩
          have HTK : Hid (St n (up1 (fun j => top (qs.take i) j) (qs.getD i rq0).s (qs.getD i rq0).t) = St n (fun j => top (qs.take (i + 1)) j)) := st_ext (fun j _ => (top_take hi j).symm)
          have HI := hid hi
          clear hi
          generalize (qs.getD i rq0).s = sx at *
          generalize (qs.getD i rq0).t = tx at *
          have HRI := hid (fun (W : World) (hW : P2 w x y vs (St n (fun j => top (qs.take i) j)) (St n (fin qs n)) W) => hW.mark1 sx tx)
          rw [rise_st, HTK.out] at HRI
          go_upto_region 15 with (fail)
          have HSS := hid HP1.out.fr
          go_region_held3 (fun W' => Hid (Fr w W' (fun _ => False)) ∧ W'.cell? ⟨b, off + i * 6 + 1, none⟩ = some (.int .i64 sx) ∧ W'.cell? ⟨b, off + i * 6 + 3, none⟩ = some (.int .i64 tx) ∧ b < W'.heap.size)
            ((refine HCL.out _ ?_; first | exact HSS.out | exact HSS.out.drew | exact HSS.out.drew.drew))
            ((go_at_call 28; refine (HRI.out _ (by first | exact HP1.out | exact HP1.out.drew)).mono ?_; rintro e w9 ⟨uu, nn, rfl, hp9⟩; have HP2 := hid hp9; clear hp9 HSS; have HSS := hid HP2.out.fr))
          go_wp2_with fail
          go_roundg q
          case measure => omega
          case rel => exact ⟨i + 1, by go_num, by have := HG.out; show _ = _; omega, by first | exact HP2 | exact hid HP2.out.drew⟩
        | zero =>
          have u1 : ¬ (i : Int) < (rs.length : Int) := by have := HG.out; have := HQL.out; omega
          have HP2 : Hid (P2 w x y vs (St n (fun j => top qs j)) (St n (fin qs n)) wr) := by
            have := HP1.out
            rw [List.take_of_length_le (by have := HG.out; omega)] at this
            exact this
          clear HP1 HG
          have wn : IntKind.i64.wrap ((n : Int) - 1) = (n : Int) - 1 := wrap_fit (by unfold fits; omega)
          go_wp2_with fail
          generalize wr = W0 at *
          clear u1
          go_loopg [17, 18, 19] n (fun q s17 s18 s19 wx => s17 = .int .i64 ((q : Int) - 1) ∧ Hid (q ≤ n) ∧ Hid (P2 w x y vs (St n (fun j => top qs j)) (St n (fin qs q)) wx))
          case atStart => exact ⟨rfl, Nat.le_refl _, HP2⟩
          case round =>
            obtain ⟨rfl, HQ, HP3⟩ := hrel
            clear HP2
            cases gk with
            | zero =>
              have e0 : ((0 : Nat) : Int) - 1 = -1 := rfl
              rw [e0]
              have HP4 : Hid (P2 w x y vs (St n (fun j => top qs j)) (St n (fun j => top qs j)) wr) := HP3.out.congr rfl (st_ext (fun j _ => by unfold fin; rw [if_pos (Nat.zero_le _)]))
              clear HP3 e0 HQ
              generalize St n (fun j => top qs j) = mm at *
              have HSM := hid (takeL_small (m := leastL mm) (t := tm) (k := key) HP4.out.a.okv HP4.out.a.four)
              go_wp2_with fail
              refine (take_any HP4.out.a key tm).mono ?_
              rintro e w4 ⟨ua, rfl, hka, hf⟩
              have HP5 := hid (HP4.out.step hf)
              have HKA := hid (hka.ks (by have := HSM.out; omega))
              obtain ⟨aoa, rfl⟩ := hka.shape
              clear hka hf HP4
              go_wp2_with fail
              refine (take_any HP5.out.b key tm).mono ?_
              rintro e w5 ⟨ub, rfl, hkb, hf⟩
              have HP6 := hid (HP5.out.step hf)
              have HKA2 := hid (HKA.out.step hf)
              have HKB := hid (hkb.ks (by have := HSM.out; omega))
              obtain ⟨aob, rfl⟩ := hkb.shape
              clear hkb hf HP5 HKA
              go_wp2_with fail
              refine (oleast_any HP6.out.a).mono ?_
              rintro e w6 ⟨rfl, hf⟩
              have HP7 := hid (HP6.out.step hf)
              have HKA3 := hid (HKA2.out.step hf)
              have HKB3 := hid (HKB.out.step hf)
              clear hf HP6 HKA2 HKB
              go_wp2_with fail
              refine (oleast_any HP7.out.b).mono ?_
              rintro e w7 ⟨rfl, hf⟩
              have HP8 := hid (HP7.out.step hf)
              have HKA4 := hid (HKA3.out.step hf)
              have HKB4 := hid (HKB3.out.step hf)
              clear hf HP7 HKA3 HKB3
              generalize leastL mm = lm at *
              go_wp2_with fail
              refine (ksame_true HKA4.out HKB4.out).mono ?_
              rintro e w8 ⟨rfl, hf⟩
              have HF8 := hid (HP8.out.fr.trans hf)
              clear hf
              go_wp2_with fail
              go_ret
              exact ⟨rfl, HF8.out⟩
            | succ s =>
              have e0 : ((s + 1 : Nat) : Int) - 1 = (s : Int) := by omega
              rw [e0]
              have hs8 : s < n := by have := HQ.out; omega
              have ws : IntKind.i64.wrap ((s : Int) - 1) = (s : Int) - 1 := wrap_fit (by unfold fits; omega)
              have HP4 : Hid (P2 w x y vs (St n (fun j => top qs j)) (St n (mid qs s 0)) wr) := HP3.out.congr rfl (st_ext (fun j _ => (mid_zero qs s j).symm))
              clear HP3 e0
              go_wp2_with fail
              generalize wr = W1 at *
              go_loopg [18] qs.length (fun q s18 wx => ∃ i : Nat, s18 = .int .i64 (i : Int) ∧ Hid (i + q = qs.length) ∧ Hid (P2 w x y vs (St n (fun j => top qs j)) (St n (mid qs s i)) wx))
              case atStart => exact ⟨0, rfl, by show _ = _; omega, HP4⟩
              case round =>
                obtain ⟨i, rfl, HG, HP5⟩ := hrel
                clear HP4
                cases gk with
                | succ q =>
                  have hi : i < qs.length := by have := HG.out; omega
                  have u1 : (i : Int) < (rs.length : Int) := by have := HQL.out; omega
                  have u2 : (i : Int) < (rs.length : Int) := by omega
                  obtain ⟨b, off, rfl, c1, c3⟩ := (HS.out.step HP5.out.fr).at (i := i) (by omega)
                  rw [← HQG.out i hi] at c1 c3
                  have hbl : b < wr.heap.size := World.block_lt_of_cell? wr _ c1
                  by_cases hsx : (qs.getD i rq0).s = (s : Int)
                  · have HRI := hid (HP5.out.mark2 (s : Int) (qs.getD i rq0).t)
                    rw [rise_st, st_ext (fun j _ => mid_step hi hsx j)] at HRI
                    rw [hsx] at c1
                    have HI := hid hi
                    clear hi hsx
                    generalize (qs.getD i rq0).t = tx at *
                    go_wp2_with fail
                    refine HRI.out.mono ?_
                    rintro e w9 ⟨uu, nn, rfl, hp9⟩
                    have HP6 := hid hp9
                    clear hp9
                    go_wp2_with fail
                    go_roundg q
                    case measure => omega
                    case rel => exact ⟨i + 1, by go_num, by have := HG.out; show _ = _; omega, HP6⟩
                  · have HP6 : Hid (P2 w x y vs (St n (fun j => top qs j)) (St n (mid qs s (i + 1))) wr) := HP5.out.congr rfl (st_ext (fun j _ => mid_skip hi hsx j))
                    have HI := hid hi
                    clear hi HP5
                    generalize (qs.getD i rq0).t = tx at *
                    generalize (qs.getD i rq0).s = sx at *
                    have q1 : (sx == (s : Int)) = false := by simpa using hsx
                    go_wp2_with fail
                    go_roundg q
                    case measure => omega
                    case rel => exact ⟨i + 1, by go_num, by have := HG.out; show _ = _; omega, HP6⟩
                | zero =>
                  have u1 : ¬ (i : Int) < (rs.length : Int) := by have := HG.out; have := HQL.out; omega
                  have HP6 : Hid (P2 w x y vs (St n (fun j => top qs j)) (St n (fin qs s)) wr) := HP5.out.congr rfl (st_ext (fun j _ => mid_all qs s i (by have := HG.out; omega) j))
                  clear HP5 HG
                  go_wp2_with fail
                  generalize wr = W2 at *
                  clear u1
                  go_loopg [19] qs.length (fun q s19 wx => ∃ i : Nat, s19 = .int .i64 (i : Int) ∧ Hid (i + q = qs.length) ∧ Hid (P2 w x y vs (St n (fun j => top qs j)) (St n (fin qs s)) wx))
                  case atStart => exact ⟨0, rfl, by show _ = _; omega, HP6⟩
                  case round =>
                    obtain ⟨i, rfl, HG, HP7⟩ := hrel
                    clear HP6
                    cases gk with
                    | zero =>
                      have u1 : ¬ (i : Int) < (rs.length : Int) := by have := HG.out; have := HQL.out; omega
                      go_wp2_with fail
                      go_roundg s
                      case measure => omega
                      case rel => exact ⟨rfl, by have := HQ.out; show _ ≤ _; omega, HP7⟩
                    | succ q =>
                      have hi : i < qs.length := by have := HG.out; omega
                      have u1 : (i : Int) < (rs.length : Int) := by have := HQL.out; omega
                      have u2 : (i : Int) < (rs.length : Int) := by omega
                      obtain ⟨b, off, rfl, c1, c3⟩ := (HS.out.step HP7.out.fr).at (i := i) (by omega)
                      rw [← HQG.out i hi] at c1 c3
                      have hbl : b < wr.heap.size := World.block_lt_of_cell? wr _ c1
                      have hmem : qs.getD i rq0 ∈ qs := by
                        have e9 : qs.getD i rq0 = qs[i] := by simp [List.getD, hi]
                        rw [e9]; exact List.getElem_mem hi
                      have HCS : Hid (∀ W : World, Fr wr W (fun _ => False) → W.cell? ⟨b, off + i * 6 + 3, none⟩ = some (.int .i64 (qs.getD i rq0).t) ∧ b < W.heap.size) := fun W hW => by
                        have hr := (fr_rules hW).1 b
                        exact ⟨by rw [hr _ hbl]; exact c3, by have := hW.size; omega⟩
                      by_cases hc : (qs.getD i rq0).s = (s : Int) ∧ -1152921504606846976 < (qs.getD i rq0).t ∧ (qs.getD i rq0).t ≤ 1152921504606846976
                      · obtain ⟨hsx, ht1, ht2⟩ := hc
                        have hti : isT (qs.getD i rq0).t = true := by unfold isT; exact decide_eq_true ⟨by omega, ht2⟩
                        have HRI := hid (HP7.out.mark2 (s : Int) (-1152921504606846976))
                        rw [rise_st, st_ext (fun j _ => fin_same hmem hsx hti (Int.le_of_lt ht1) j rfl)] at HRI
                        have HRJ := hid (fun (W : World) (hW : P2 w x y vs (St n (fun j => top qs j)) (St n (fin qs s)) W) => hW.mark2 (s : Int) (qs.getD i rq0).t)
                        rw [rise_st, st_ext (fun j _ => fin_same hmem hsx hti (Int.le_refl _) j rfl)] at HRJ
                        rw [hsx] at c1
                        have HX := hid (congrArg Rq.t (HQG.out i hi))
                        have HI := hid hi
                        clear hi hsx hmem hti
                        generalize (qs.getD i rq0).t = tx at *
                        go_wp2_with fail
                        refine HRI.out.mono ?_
                        rintro e w9 ⟨uu, nn, rfl, hp9⟩
                        have HP8 := hid hp9
                        clear hp9
                        obtain ⟨b2, off2, e2, d1, d3⟩ := (HS.out.step HP8.out.fr).at (i := i) (by have := HI.out; omega)
                        simp only [Option.some.injEq, Addr.mk.injEq, and_true] at e2
                        obtain ⟨rfl, rfl⟩ := e2
                        rw [← HX.out] at d3
                        clear d1 c1 c3 hbl HCS
                        have hbl : b < w9.heap.size := World.block_lt_of_cell? w9 _ d3
                        go_wp2_with fail
                        refine (HRJ.out _ HP8.out).mono ?_
                        rintro e w10 ⟨uu2, nn2, rfl, hp10⟩
                        have HP9 := hid hp10
                        clear hp10
                        go_wp2_with fail
                        go_roundg s
                        case measure => omega
                        case rel => exact ⟨rfl, by have := HQ.out; show _ ≤ _; omega, HP9⟩
                      · clear hmem HCS
                        have HI := hid hi
                        clear hi
                        generalize (qs.getD i rq0).t = tx at *
                        generalize (qs.getD i rq0).s = sx at *
                        have hc2 : ¬ sx = (s : Int) ∨ (sx = (s : Int) ∧ ¬ -1152921504606846976 < tx) ∨ (sx = (s : Int) ∧ -1152921504606846976 < tx ∧ ¬ tx ≤ 1152921504606846976) := by omega
                        clear hc
                        rcases hc2 with h0 | ⟨rfl, h1⟩ | ⟨rfl, h1, h2⟩
                        · have q1 : (sx == (s : Int)) = false := by simpa using h0
                          go_wp2_with fail
                          go_roundg q
                          case measure => omega
                          case rel => exact ⟨i + 1, by go_num, by have := HG.out; show _ = _; omega, HP7⟩
                        · go_wp2_with fail
                          go_roundg q
                          case measure => omega
                          case rel => exact ⟨i + 1, by go_num, by have := HG.out; show _ = _; omega, HP7⟩
                        · go_wp2_with fail
                          go_roundg q
                          case measure => omega
                          case rel => exact ⟨i + 1, by go_num, by have := HG.out; show _ = _; omega, HP7⟩
end Go.Proofs.Ytbbmmepkookadaa.V
