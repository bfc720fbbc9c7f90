/- MarkPlays: the walk. -/
import Derived.Test.YtfmhdpenodmblaaQRef
namespace Go.Proofs.Ytfmhdpenodmblaa
open Go.RowKit

/-- The program's marks and the document's, apart. -/
structure PB (w : World) (B g base C h cap : Nat) (ms ns : List Int) (W : World) : Prop where
  km : Km W B g ms
  rm : Rm W base C h cap ns
  gh : g ≠ h
  bn : w.heap.size ≤ B ∧ w.heap.size ≤ g ∧ w.heap.size ≤ C ∧ w.heap.size ≤ h
  fr : Fr w W (fun _ => False)
theorem PB.kinds {w : World} {B g base C h cap : Nat} {ms ns : List Int} {W : World} (p : PB w B g base C h cap ms ns W) : B ≠ h ∧ C ≠ g := by
  have h1 := p.km.cell
  have h2 : W.heap[g]? = some (.cells (iv ms).toArray 2 (0, 0)) := p.km.row
  have h3 := p.rm.cell
  constructor
  · intro e
    exact own_ne p.rm.own h1 (by decide) (by simp [Value.ownBlock, e])
  · rintro rfl
    rw [h2] at h3
    simp at h3
theorem PB.step {w : World} {B g base C h cap : Nat} {ms ns : List Int} {W W' : World} (p : PB w B g base C h cap ms ns W) (hf : Fr W W' (fun _ => False)) : PB w B g base C h cap ms ns W' :=
  ⟨p.km.fr hf (fun h => h) (fun h => h), p.rm.fr hf (fun h => h) (fun h => h), p.gh, p.bn, p.fr.trans hf⟩
theorem PB.drew {w : World} {B g base C h cap : Nat} {ms ns : List Int} {W : World} (p : PB w B g base C h cap ms ns W) : PB w B g base C h cap ms ns W.drew := p.step (Fr.refl W _).drew
theorem PB.rise1 {w : World} {B g base C h cap : Nat} {ms ns ms' : List Int} {W W' : World} (p : PB w B g base C h cap ms ns W) (hk : Km W' B g ms') (hf : Fr W W' (fun b => b = g)) : PB w B g base C h cap ms' ns W' :=
  ⟨hk, p.rm.fr hf p.kinds.2 p.gh.symm, p.gh, p.bn, p.fr.trans2 hf (fun i hi e => by have := p.bn; omega)⟩
theorem PB.rise2 {w : World} {B g base C h cap : Nat} {ms ns ns' : List Int} {W W' : World} (p : PB w B g base C h cap ms ns W) (hk : Rm W' base C h cap ns') (hf : Fr W W' (fun b => b = h)) : PB w B g base C h cap ms ns' W' :=
  ⟨p.km.fr hf p.kinds.1 p.gh, hk, p.gh, p.bn, p.fr.trans2 hf (fun i hi e => by have := p.bn; omega)⟩

theorem rem_run (i n : Nat) (h1 : 0 < n) : ∀ W : World, (binOp .rem 3 (.int .i64 (i : Int)) (.int .i64 (n : Int))).run Try.prog W = .ok (.int .i64 ((i % n : Nat) : Int)) W := by
  intro W
  have h4 : (i : Int).tmod (n : Int) = ((i % n : Nat) : Int) := by rw [Int.tmod_eq_emod_of_nonneg (by omega)]; rfl
  have h5 : ¬ n = 0 := by omega
  simp [binOp, Op.intDiv, h4, go_sem, h5]

set_option maxHeartbeats 4000000 in
set_option maxRecDepth 100000 in
theorem plays_walk {w : World} {v u : Value} {rs : List Rq} {qs : List Int} (src : Int) (hrs : Rs w v rs) (has : Nu w u qs) : Calls Try.prog 4 #[.int .i64 src, v, u] w fun e w' => e = .returned (.bool true) ∧ Fr w w' (fun _ => False) := by
  have HRS := hid hrs
  have HAS := hid has
  obtain ⟨ao, cap0, rfl, hrl, _⟩ := id hrs
  obtain ⟨bo, cap1, rfl, hal, _⟩ := id has
  clear hrs has
  by_cases hok : 1 ≤ src ∧ src ≤ 8
  · obtain ⟨n, rfl⟩ : ∃ n : Nat, src = (n : Int) := ⟨src.toNat, by omega⟩
    have hn1 : 1 ≤ n := by omega
    have hn8 : n ≤ 8 := by omega
    clear hok
    have HN := hid (fun W : World => new_ok hn1 hn8 W)
    have HRN := hid (fun W : World => rnew_ok hn1 hn8 W)
    go_enter Try.func4, Try.ntmps4
    go_wp2_with fail
    refine (HN.out _).mono ?_
    rintro e w1 ⟨B, g, rfl, hK, hB, hg, hf⟩
    have HK := hid hK
    have HF := hid hf
    have HBG := hid (And.intro hB hg)
    clear hK hf hB hg HN
    go_wp2_with fail
    refine (HRN.out _).mono ?_
    rintro e w2 ⟨h, cap, rfl, hR, hf2⟩
    have HP : Hid (PB w B g (w1.heap.size + 1) w1.heap.size h cap (List.replicate n noM) (List.replicate n noM) w2) := by
      have hz := HF.out.size
      have h1 := HK.out.lt
      have h2 := hR.lt
      exact ⟨HK.out.fr hf2 (fun h => h) (fun h => h), hR, by omega, ⟨HBG.out.1, HBG.out.2, by omega, by omega⟩, HF.out.trans hf2⟩
    clear hR hf2 HK HF HBG HRN
    generalize w1.heap.size + 1 = base at *
    generalize w1.heap.size = C at *
    go_wp2_with fail
    go_loopg [11, 12, 13, 14, 15] (min rs.length 300) (fun k s11 s12 s13 s14 s15 wx => ∃ i : Nat, ∃ ms : List Int, s11 = .int .i64 (i : Int) ∧ Hid (i + k = min rs.length 300) ∧ Hid (PB w B g base C h cap ms ms wx))
    case atStart => exact ⟨0, _, rfl, by show _ = _; omega, HP⟩
    case round =>
      obtain ⟨i, ms, rfl, HG, HP1⟩ := hrel
      clear HP
      cases gk with
      | zero =>
        have hc : ¬ (i : Int) < (rs.length : Int) ∨ ((i : Int) < (rs.length : Int) ∧ ¬ (i : Int) < 300) := by have := HG.out; omega
        rcases hc with t1 | ⟨t1, t2⟩
        all_goals
          go_wp2_with fail
          refine (head_any _).mono ?_
          rintro e w6 ⟨rfl, hf6⟩
          have HS6 := hid (HP1.out.step hf6)
          clear hf6
          go_wp2_with fail
          go_ret
          exact ⟨rfl, HS6.out.fr⟩
      | succ k =>
        have hi : i < rs.length := by have := HG.out; omega
        have t1 : (i : Int) < (rs.length : Int) := by omega
        have t2 : (i : Int) < 300 := by have := HG.out; omega
        obtain ⟨b, off, rfl, _, _⟩ := (HRS.out.fr HP1.out.fr).at hi
        have HCL : Hid (∀ W : World, Fr w W (fun _ => False) → W.cell? ⟨b, off + i * 2, none⟩ = some (.int .i64 (rs.getD i rq0).s) ∧ W.cell? ⟨b, off + i * 2 + 1, none⟩ = some (.int .i64 (rs.getD i rq0).t) ∧ b < W.heap.size) := fun W hW => by
          obtain ⟨b', off', e, h1, h2⟩ := (HRS.out.fr hW).at hi
          simp only [Option.some.injEq, Addr.mk.injEq, and_true] at e
          obtain ⟨rfl, rfl⟩ := e
          exact ⟨h1, h2, World.block_lt_of_cell? W _ h1⟩
        have HI := hid hi
        clear hi
        generalize (rs.getD i rq0).s = sx at *
        generalize (rs.getD i rq0).t = tx at *
        have HRI := hid (fun (W : World) (hW : PB w B g base C h cap ms ms W) => rise_any hW.km sx tx)
        have HRR := hid (fun (W : World) (hW : PB w B g base C h cap (riseS ms sx tx) ms W) => rrise_any hW.rm sx tx)
        go_upto_region 8 with (fail)
        have HS := hid HP1.out.fr
        go_region_held3 (fun W' => Hid (Fr w W' (fun _ => False)) ∧ W'.cell? ⟨b, off + i * 2, none⟩ = some (.int .i64 sx) ∧ W'.cell? ⟨b, off + i * 2 + 1, none⟩ = some (.int .i64 tx) ∧ b < W'.heap.size)
          ((refine (fun hh => ⟨hh, HCL.out _ hh⟩ : Fr w _ (fun _ => False) → _) ?_; first | exact HS.out | exact HS.out.drew | exact HS.out.drew.drew))
          ((go_at_call 13; refine (HRI.out _ (by first | exact HP1.out | exact HP1.out.drew)).mono ?_; rintro e w9 ⟨rfl, hk9, hf9⟩; have HP2 := hid ((by first | exact HP1.out | exact HP1.out.drew : PB w B g base C h cap ms ms _).rise1 hk9 hf9); clear hk9 hf9 HS; have HS := hid HP2.out.fr))
        clear HP1 HRI
        go_upto_region 9 with (fail)
        go_region_held3 (fun W' => Hid (Fr w W' (fun _ => False)) ∧ W'.cell? ⟨b, off + i * 2, none⟩ = some (.int .i64 sx) ∧ W'.cell? ⟨b, off + i * 2 + 1, none⟩ = some (.int .i64 tx) ∧ b < W'.heap.size)
          ((refine (fun hh => ⟨hh, HCL.out _ hh⟩ : Fr w _ (fun _ => False) → _) ?_; first | exact HS.out | exact HS.out.drew | exact HS.out.drew.drew))
          ((go_at_call 14; refine (HRR.out _ (by first | exact HP2.out | exact HP2.out.drew | exact HP2.out.drew.drew)).mono ?_; rintro e w9 ⟨rfl, hk9, hf9⟩; have HP3 := hid ((by first | exact HP2.out | exact HP2.out.drew | exact HP2.out.drew.drew : PB w B g base C h cap (riseS ms sx tx) ms _).rise2 hk9 hf9); clear hk9 hf9 HS; have HS := hid HP3.out.fr))
        clear HP2 HRR HS HCL
        generalize riseR ms sx tx = rr at *
        generalize riseS ms sx tx = ms' at *
        have HL1 := hid (fun (W : World) (hW : PB w B g base C h cap ms' ms' W) => least_any hW.km)
        have HL2 := hid (fun (W : World) (hW : PB w B g base C h cap ms' ms' W) => rleast_any hW.rm)
        have HO1 := hid (fun (W : World) (hW : PB w B g base C h cap ms' ms' W) (a : Int) => of_any hW.km a)
        have HO2 := hid (fun (W : World) (hW : PB w B g base C h cap ms' ms' W) (a : Int) => rof_any hW.rm a)
        go_wp2_with fail
        refine (HL1.out _ (by first | exact HP3.out | exact HP3.out.drew | exact HP3.out.drew.drew)).mono ?_
        rintro e w10 ⟨rfl, hf10⟩
        have HP4 := hid ((by first | exact HP3.out | exact HP3.out.drew | exact HP3.out.drew.drew : PB w B g base C h cap ms' ms' _).step hf10)
        clear hf10 HP3
        go_wp2_with fail
        refine (HL2.out _ HP4.out).mono ?_
        rintro e w11 ⟨rfl, hf11⟩
        have HP5 := hid (HP4.out.step hf11)
        clear hf11 HP4 HL1 HL2
        generalize leastL ms' = LL at *
        go_upto_region 12 with (fail)
        by_cases hq : qs.length = 0
        · have q0 : decide (0 < (qs.length : Int)) = false := by rw [hq]; rfl
          have q1 : ((qs.length : Int) > 0) = False := by rw [hq]; simp
          go_quiet (fail)
          go_wp2_with fail
          go_roundg k
          case measure => omega
          case rel => exact ⟨i + 1, ms', by go_num, by have := HG.out; show _ = _; omega, HP5.out.step ((Fr.refl _ _).drewN _)⟩
        · have hq1 : 0 < qs.length := by omega
          have hq2 : (0 : Int) < (qs.length : Int) := by omega
          have q0 : decide (0 < (qs.length : Int)) = true := decide_eq_true hq2
          have hjl : i % qs.length < qs.length := Nat.mod_lt _ hq1
          obtain ⟨bb, ob, rfl, _, _⟩ := (HAS.out.fr HP5.out.fr).at hjl
          have HCA : Hid (∀ W : World, Fr w W (fun _ => False) → W.cell? ⟨bb, ob + i % qs.length, none⟩ = some (.int .i64 (qs.getD (i % qs.length) 0)) ∧ bb < W.heap.size) := fun W hW => by
            obtain ⟨b', off', e, h1, h2⟩ := (HAS.out.fr hW).at hjl
            simp only [Option.some.injEq, Addr.mk.injEq, and_true] at e
            obtain ⟨rfl, rfl⟩ := e
            exact ⟨h1, World.block_lt_of_cell? W _ h1⟩
          generalize qs.getD (i % qs.length) 0 = aq at *
          clear hq HAS
          generalize qs.length = nq at *
          have hm0 : (0 : Int) ≤ (i : Int) % (nq : Int) := Int.emod_nonneg _ (by omega)
          have hm1 : (i : Int) % (nq : Int) < (nq : Int) := Int.emod_lt_of_pos _ hq2
          have hm2 : ((i : Int) % (nq : Int)).toNat = i % nq := rfl
          have hm3 : (i : Int).tmod (nq : Int) = (i : Int) % (nq : Int) := Int.tmod_eq_emod_of_nonneg (by omega)
          have hm4 : ¬ nq = 0 := by omega
          have HS := HP5
          clear HP5
          go_region_held (fun W' => Hid (PB w B g base C h cap ms' ms' W') ∧ W'.cell? ⟨bb, ob + i % nq, none⟩ = some (.int .i64 aq) ∧ bb < W'.heap.size)
            ((refine (fun hh => ⟨hh, HCA.out _ hh.fr⟩ : PB w B g base C h cap ms' ms' _ → _) ?_; first | exact HS.out | exact HS.out.drew | exact HS.out.drew.drew | exact HS.out.step ((Fr.refl _ _).drewN _)))
            ((first
              | (go_at_call 17; refine (HO1.out _ (by first | exact HS.out | exact HS.out.drew) _).mono ?_; rintro e w12 ⟨rfl, hf12⟩; have HS12 := hid ((by first | exact HS.out | exact HS.out.drew : PB w B g base C h cap ms' ms' _).step hf12); clear hf12 HS; have HS := HS12; clear HS12)
              | (go_at_call 18; refine (HO2.out _ (by first | exact HS.out | exact HS.out.drew) _).mono ?_; rintro e w12 ⟨rfl, hf12⟩; have HS12 := hid ((by first | exact HS.out | exact HS.out.drew : PB w B g base C h cap ms' ms' _).step hf12); clear hf12 HS; have HS := HS12; clear HS12)))
          go_wp2_with fail
          go_roundg k
          case measure => omega
          case rel => exact ⟨i + 1, ms', by go_num, by have := HG.out; show _ = _; omega, by first | exact HS.out | exact HS.out.drew⟩
  · have HN := hid (fun W : World => new_bad hok W)
    have HRN := hid (fun W : World => rnew_bad hok W)
    clear hok
    go_enter Try.func4, Try.ntmps4
    go_wp2_with fail
    refine (HN.out _).mono ?_
    rintro e w1 ⟨rfl, hf⟩
    have HF := hid hf
    clear hf HN
    go_wp2_with fail
    refine (HRN.out _).mono ?_
    rintro e w2 ⟨rfl, hf2⟩
    have HF2 := hid (HF.out.trans hf2)
    clear hf2 HF HRN
    go_wp2_with fail
    go_loopg [11, 12, 13, 14, 15] 0 (fun k s11 s12 s13 s14 s15 wx => s11 = .int .i64 0 ∧ wx = w2)
    case atStart => exact ⟨rfl, rfl⟩
    case round =>
      obtain ⟨rfl, rfl⟩ := hrel
      have hc : ¬ (0 : Int) < (rs.length : Int) ∨ (0 : Int) < (rs.length : Int) := by omega
      rcases hc with t1 | t1
      all_goals
        go_wp2_with fail
        refine (head_any _).mono ?_
        rintro e w6 ⟨rfl, hf6⟩
        have HS6 := hid (HF2.out.trans hf6)
        clear hf6
        go_wp2_with fail
        go_ret
        exact ⟨rfl, HS6.out⟩
end Go.Proofs.Ytfmhdpenodmblaa
