/- The law's told, among: walks. -/
import Derived.Test.YtfmhdpenodmblaaQDel2
import Derived.Test.YtfmhdpenodmblaaQROpen
namespace Go.Proofs.Ytfmhdpenodmblaa
open Go.RowKit

theorem opL_map (vs : List Vw) (m : Int) (i : Nat) (S : List Int) : opL vs m (S.map fun x => (⟨i, x⟩ : Ce)) = (openL (vs.getD i vw0).s (vs.getD i vw0).l m S).map fun x => (⟨i, x⟩ : Ce) := by
  unfold opL openL
  rw [List.filter_map]
  rfl
theorem opL_succ (vs : List Vw) (m t : Int) (i : Nat) : opL vs m (winN vs t (i + 1)) = opL vs m (winN vs t i) ++ (openL (vs.getD i vw0).s (vs.getD i vw0).l m (startsL (vs.getD i vw0).s (vs.getD i vw0).d t)).map fun x => (⟨i, x⟩ : Ce) := by
  rw [winN_succ, opL_append, opL_map]
/-- What is told ahead is a front of what is told. -/
theorem opL_front (vs : List Vw) (m t : Int) : ∀ {i k : Nat}, i ≤ k → ∃ r, opL vs m (winN vs t k) = opL vs m (winN vs t i) ++ r := by
  intro i k h
  induction k with
  | zero => exact ⟨[], by rw [show i = 0 by omega, List.append_nil]⟩
  | succ k ih =>
    rcases Nat.lt_or_ge i (k + 1) with h1 | h1
    · obtain ⟨r, hr⟩ := ih (by omega)
      exact ⟨r ++ (openL (vs.getD k vw0).s (vs.getD k vw0).l m (startsL (vs.getD k vw0).s (vs.getD k vw0).d t)).map fun x => (⟨k, x⟩ : Ce), by rw [opL_succ, hr, List.append_assoc]⟩
    · exact ⟨[], by rw [show i = k + 1 by omega, List.append_nil]⟩
theorem told_at {vs : List Vw} {m t : Int} {i j : Nat} (hi : i < vs.length) (hj : j < (openL (vs.getD i vw0).s (vs.getD i vw0).l m (startsL (vs.getD i vw0).s (vs.getD i vw0).d t)).length) :
    (opL vs m (winN vs t i)).length + j < (opL vs m (winL vs t)).length ∧ (opL vs m (winL vs t)).getD ((opL vs m (winN vs t i)).length + j) ce0 = ⟨i, (openL (vs.getD i vw0).s (vs.getD i vw0).l m (startsL (vs.getD i vw0).s (vs.getD i vw0).d t)).getD j 0⟩ := by
  obtain ⟨r, hr⟩ := opL_front vs m t (show i + 1 ≤ vs.length by omega)
  have e : opL vs m (winL vs t) = opL vs m (winN vs t i) ++ ((openL (vs.getD i vw0).s (vs.getD i vw0).l m (startsL (vs.getD i vw0).s (vs.getD i vw0).d t)).map (fun x => (⟨i, x⟩ : Ce)) ++ r) := by
    unfold winL
    rw [hr, opL_succ, List.append_assoc]
  rw [e]
  generalize openL (vs.getD i vw0).s (vs.getD i vw0).l m (startsL (vs.getD i vw0).s (vs.getD i vw0).d t) = O at *
  refine ⟨by rw [List.length_append, List.length_append, List.length_map]; omega, ?_⟩
  simp only [List.getD]
  rw [List.getElem?_append_right (by omega), Nat.add_sub_cancel_left, List.getElem?_append_left (by rw [List.length_map]; exact hj), List.getElem?_map]
  simp [hj]
theorem someB_succ (vs : List Vw) (t : Int) (i : Nat) : someB (winN vs t (i + 1)) = (someB (winN vs t i) || decide (0 < (startsL (vs.getD i vw0).s (vs.getD i vw0).d t).length)) := by
  unfold someB
  rw [winN_succ, List.length_append, List.length_map, ← Bool.decide_or]
  congr 1
  apply propext
  omega

set_option maxHeartbeats 4000000 in
set_option maxRecDepth 100000 in
theorem told_any {w : World} {u v : Value} {vs : List Vw} {m t : Int} (hc : chkN vs t = 0) (hu : Cr w u (opL vs m (winL vs t))) (hv : Vs w v vs) :
    Calls Try.prog 26 #[u, .bool (decide ((opL vs m (winL vs t)).length = 0) && decide (0 < (winL vs t).length)), .int .i64 t, v, .int .i64 m] w fun e w' => e = .returned (.bool true) ∧ Fr w w' (fun _ => False) := by
  have HV := hid hv
  have HU := hid hu
  obtain ⟨ao, cap, rfl, hl, _⟩ := id hv
  obtain ⟨bo, capu, rfl, hul, _⟩ := id hu
  clear hv hu
  obtain ⟨h4, hok, hti⟩ := chk_ok hc
  have HOK := hid hok
  have HTI := hid hti
  have HWL := hid (winL_len hok h4 t)
  clear hok hti hc
  have HTA := hid (fun i j hi hj => told_at (vs := vs) (m := m) (t := t) (i := i) (j := j) hi hj)
  have HEND : Hid (∀ i, i = vs.length → opL vs m (winN vs t i) = opL vs m (winL vs t) ∧ winN vs t i = winL vs t) := fun i hi => by rw [hi]; exact ⟨rfl, rfl⟩
  have HOP := hid (fun i => opL_succ vs m t i)
  have HSB := hid (fun i => someB_succ vs t i)
  have hOL : (opL vs m (winL vs t)).length ≤ 256 := Nat.le_trans (List.length_filter_le _ _) HWL.out
  generalize hW : winL vs t = WL at *
  generalize hO : opL vs m WL = OL at *
  obtain ⟨LB, hLB⟩ : ∃ LB, LB = (decide (OL.length = 0) && decide (0 < WL.length)) := ⟨_, rfl⟩
  rw [← hLB]
  have HLB : Hid (LB = (decide (OL.length = 0) && someB WL)) := hLB
  clear hLB hW hO
  have HFL : Hid (∀ i, i ≤ vs.length → (opL vs m (winN vs t i)).length ≤ 256) := fun i hi => by
    have h1 := winN_len HOK.out t i hi
    have h2 : (opL vs m (winN vs t i)).length ≤ (winN vs t i).length := List.length_filter_le _ _
    omega
  go_enter Try.func26, Try.ntmps26
  go_wp2_with fail
  go_loopg [11, 12, 13, 14, 15, 16, 17, 18] vs.length (fun n s11 s12 s13 s14 s15 s16 s17 s18 wx => ∃ i : Nat, s13 = .int .i64 (i : Int) ∧ Hid (i + n = vs.length) ∧ s11 = .int .i64 ((opL vs m (winN vs t i)).length : Int) ∧ s12 = .bool (someB (winN vs t i)) ∧ Hid (Fr w wx (fun _ => False)))
  case atStart => exact ⟨0, rfl, by show _ = _; omega, rfl, rfl, Fr.refl _ _⟩
  case round =>
    obtain ⟨i, rfl, HG, rfl, rfl, HF⟩ := hrel
    cases gk with
    | zero =>
      have t1 : ¬ (i : Int) < (vs.length : Int) := by have := HG.out; omega
      obtain ⟨e1, e2⟩ := HEND.out i (by have := HG.out; omega)
      rw [e1, e2]
      clear e1 e2
      generalize someB WL = sb at *
      rcases Nat.eq_zero_or_pos OL.length with hz | hz
      · obtain rfl : OL = [] := List.eq_nil_of_length_eq_zero hz
        clear hz
        have e5 : LB = sb := by rw [HLB.out]; rfl
        subst e5
        rcases LB with _ | _
        all_goals
          go_wp2_with fail
          go_ret
          exact ⟨rfl, HF.out⟩
      · have hz1 : ¬ OL.length = 0 := by omega
        have hz2 : ¬ (OL.length : Int) = 0 := by omega
        have e5 : LB = false := by rw [HLB.out, decide_eq_false hz1]; rfl
        subst e5
        generalize OL.length = ln at *
        have hz3 : ((ln : Int) == 0) = false := by simp; omega
        rcases sb with _ | _
        all_goals
          go_wp2_with fail
          go_ret
          exact ⟨rfl, HF.out⟩
    | succ n =>
      have hi : i < vs.length := by have := HG.out; omega
      have t1 : (i : Int) < (vs.length : Int) := by omega
      obtain ⟨b, off, rfl, c0, c1, c2⟩ := (HV.out.fr HF.out (fun _ _ _ _ _ h => h)).at hi
      have HVC : Hid (∀ W : World, Fr w W (fun _ => False) → (W.cell? ⟨b, off + i * 3, none⟩ = some (.int .i64 (vs.getD i vw0).s) ∧ W.cell? ⟨b, off + i * 3 + 1, none⟩ = some (.int .i64 (vs.getD i vw0).d) ∧ W.cell? ⟨b, off + i * 3 + 2, none⟩ = some (.int .i64 (vs.getD i vw0).l)) ∧ b < W.heap.size) := fun W hW => by
        obtain ⟨b', off', e, h1, h2, h3⟩ := (HV.out.fr hW (fun _ _ _ _ _ h => h)).at hi
        simp only [Option.some.injEq, Addr.mk.injEq, and_true] at e
        obtain ⟨rfl, rfl⟩ := e
        exact ⟨⟨h1, h2, h3⟩, World.block_lt_of_cell? W _ h1⟩
      have hbl := (HVC.out _ HF.out).2
      have ho := okVs_at HOK.out hi
      have HST := hid (fun W : World => starts_ok ho HTI.out W)
      have HOO := hid (fun W : World => open_ok m ho HTI.out W)
      have HN64 := hid (numP_le (t := t) ho.sd ho.d1)
      have HTB := hid (fun j hj => HTA.out i j hi hj)
      have HO1 := hid (HOP.out i)
      have HS1 := hid (HSB.out i)
      have HFL1 := hid (HFL.out (i + 1) (by omega))
      clear ho hi
      generalize (vs.getD i vw0).s = vs0 at *
      generalize (vs.getD i vw0).d = vd0 at *
      generalize (vs.getD i vw0).l = vl0 at *
      go_wp2_with fail
      refine (HST.out _).mono ?_
      rintro e w1 ⟨g, rfl, hg, hrow, hf⟩
      have HF1 := hid (HF.out.trans hf)
      clear hrow hf hg HF HST c0 c1 c2 hbl
      obtain ⟨⟨c0, c1, c2⟩, hbl⟩ := HVC.out _ HF1.out
      go_wp2_with fail
      refine (HOO.out _).mono ?_
      rintro e w2 ⟨vo, rfl, hor⟩
      have HF2 := hid (HF1.out.trans hor.fr)
      obtain ⟨go, rest, rfl, _, hro, _⟩ := hor.row
      have HR := hid hro
      clear hor hro HF1 c0 c1 c2 hbl HOO HVC
      have hsl : (startsL vs0 vd0 t).length ≤ 64 := by rw [startsL_length]; exact HN64.out
      have hol : (openL vs0 vl0 m (startsL vs0 vd0 t)).length ≤ 64 := Nat.le_trans (openL_len _ _ _ _) hsl
      generalize hOx : openL vs0 vl0 m (startsL vs0 vd0 t) = Ox at *
      generalize (startsL vs0 vd0 t).length = sn at *
      clear hOx
      have hn0 : (opL vs m (winN vs t i)).length ≤ 256 := by
        have := HFL1.out
        rw [HO1.out, List.length_append] at this
        omega
      obtain ⟨N0, hN0⟩ : ∃ N0, N0 = (opL vs m (winN vs t i)).length := ⟨_, rfl⟩
      rw [← hN0] at HTB hn0 ⊢
      have HN1 : Hid ((opL vs m (winN vs t (i + 1))).length = N0 + Ox.length) := by
        show _ = _
        rw [HO1.out, List.length_append, List.length_map, hN0]
      clear hN0 HO1
      obtain ⟨SB, hSB⟩ : ∃ SB, SB = someB (winN vs t (i + 1)) := ⟨_, rfl⟩
      rw [← hSB] at HS1
      have HSE := hid hSB
      clear hSB
      generalize someB (winN vs t i) = sb0 at *
      have hcase : (sb0 = true ∧ SB = true) ∨ (sb0 = false ∧ sn = 0 ∧ SB = false) ∨ (sb0 = false ∧ 0 < sn ∧ SB = true) := by
        have := HS1.out
        rcases sb0 with _ | _
        · rcases Nat.eq_zero_or_pos sn with h | h
          · subst h; exact Or.inr (Or.inl ⟨rfl, rfl, this⟩)
          · exact Or.inr (Or.inr ⟨rfl, h, by rw [this, decide_eq_true h]; rfl⟩)
        · exact Or.inl ⟨rfl, by rw [this]; rfl⟩
      clear HS1
      rcases hcase with ⟨rfl, rfl⟩ | ⟨rfl, rfl, rfl⟩ | ⟨rfl, hsp, rfl⟩
      rotate_left 2
      · have hsp2 : (0 : Int) < (sn : Int) := by omega
        go_upto_region 9 with (fail)
        go_wp2_with fail
        go_loopg [11, 18] Ox.length (fun n s11 s18 wx => ∃ j q : Nat, s18 = .int .i64 (j : Int) ∧ Hid (j + n = Ox.length) ∧ s11 = .int .i64 (q : Int) ∧ Hid (q = N0 + j) ∧ Hid (Fr w2 wx (fun _ => False)))
        case atStart => exact ⟨0, N0, rfl, by show _ = _; omega, rfl, rfl, Fr.refl _ _⟩
        case round =>
          obtain ⟨j, q, rfl, HJ, rfl, HQ, HF3⟩ := hrel
          cases gk with
          | zero =>
            have u1 : ¬ (j : Int) < (Ox.length : Int) := by have := HJ.out; omega
            have HE1 : Hid (q = (opL vs m (winN vs t (i + 1))).length) := by show _ = _; rw [HN1.out, HQ.out]; have := HJ.out; omega
            go_wp2_with fail
            go_roundg n
            case measure => omega
            case rel => exact ⟨i + 1, by go_num, by have := HG.out; show _ = _; omega, by rw [HE1.out], by rw [← HSE.out], HF2.out.trans HF3.out⟩
          | succ p =>
            have hj : j < Ox.length := by have := HJ.out; omega
            have u1 : (j : Int) < (Ox.length : Int) := by omega
            obtain ⟨q1, q2⟩ := HTB.out j hj
            rw [← HQ.out] at q1 q2
            obtain ⟨bo', capu', eu, _, hcu⟩ := HU.out.fr (HF2.out.trans HF3.out)
            obtain ⟨gu, ru, eu2, hru⟩ := hcu (by intro e; rw [e] at q1; simp at q1)
            cases eu
            cases eu2
            obtain ⟨d0, d1, d2⟩ := hru.get q1
            rw [q2] at d0 d2
            have hgu := hru.lt
            have hr3 := HR.out.fr HF3.out (fun h => h)
            have c1 := hr3.cell j
            rw [List.getElem?_append_left (by rw [iv_length]; exact hj), iv_get _ _ hj] at c1
            have hgo := hr3.lt
            have u2 : (q : Int) < (OL.length : Int) := by omega
            have u3 : decide ((OL.length : Int) ≤ (q : Int)) = false := by simp; omega
            have u4 : ((OL.length : Int) ≤ (q : Int)) = False := by simp; omega
            have hq9 : q ≤ 1000 := by omega
            have HQL := hid q1
            clear hcu hru hr3 q1 q2 hj
            generalize Ox.getD j 0 = x0 at *
            go_upto_region 12 with (fail)
            go_quiet (fail)
            go_wp2_with fail
            go_roundg p
            case measure => omega
            case rel => exact ⟨j + 1, q + 1, by go_num, by have := HJ.out; show _ = _; omega, by go_num, by have := HQ.out; show _ = _; omega, HF3.out.drewN _⟩
      all_goals
        go_upto_region 9 with (fail)
        go_wp2_with fail
        go_loopg [11, 18] Ox.length (fun n s11 s18 wx => ∃ j q : Nat, s18 = .int .i64 (j : Int) ∧ Hid (j + n = Ox.length) ∧ s11 = .int .i64 (q : Int) ∧ Hid (q = N0 + j) ∧ Hid (Fr w2 wx (fun _ => False)))
        case atStart => exact ⟨0, N0, rfl, by show _ = _; omega, rfl, rfl, Fr.refl _ _⟩
        case round =>
          obtain ⟨j, q, rfl, HJ, rfl, HQ, HF3⟩ := hrel
          cases gk with
          | zero =>
            have u1 : ¬ (j : Int) < (Ox.length : Int) := by have := HJ.out; omega
            have HE1 : Hid (q = (opL vs m (winN vs t (i + 1))).length) := by show _ = _; rw [HN1.out, HQ.out]; have := HJ.out; omega
            go_wp2_with fail
            go_roundg n
            case measure => omega
            case rel => exact ⟨i + 1, by go_num, by have := HG.out; show _ = _; omega, by rw [HE1.out], by rw [← HSE.out], HF2.out.trans HF3.out⟩
          | succ p =>
            have hj : j < Ox.length := by have := HJ.out; omega
            have u1 : (j : Int) < (Ox.length : Int) := by omega
            obtain ⟨q1, q2⟩ := HTB.out j hj
            rw [← HQ.out] at q1 q2
            obtain ⟨bo', capu', eu, _, hcu⟩ := HU.out.fr (HF2.out.trans HF3.out)
            obtain ⟨gu, ru, eu2, hru⟩ := hcu (by intro e; rw [e] at q1; simp at q1)
            cases eu
            cases eu2
            obtain ⟨d0, d1, d2⟩ := hru.get q1
            rw [q2] at d0 d2
            have hgu := hru.lt
            have hr3 := HR.out.fr HF3.out (fun h => h)
            have c1 := hr3.cell j
            rw [List.getElem?_append_left (by rw [iv_length]; exact hj), iv_get _ _ hj] at c1
            have hgo := hr3.lt
            have u2 : (q : Int) < (OL.length : Int) := by omega
            have u3 : decide ((OL.length : Int) ≤ (q : Int)) = false := by simp; omega
            have u4 : ((OL.length : Int) ≤ (q : Int)) = False := by simp; omega
            have hq9 : q ≤ 1000 := by omega
            have HQL := hid q1
            clear hcu hru hr3 q1 q2 hj
            generalize Ox.getD j 0 = x0 at *
            go_upto_region 12 with (fail)
            go_quiet (fail)
            go_wp2_with fail
            go_roundg p
            case measure => omega
            case rel => exact ⟨j + 1, q + 1, by go_num, by have := HJ.out; show _ = _; omega, by go_num, by have := HQ.out; show _ = _; omega, HF3.out.drewN _⟩

/-- All of the cells are among others. -/
theorem among_sub {vs : List Vw} {m m' : Int} (h : m ≤ m') (L : List Ce) : ∀ c ∈ opL vs m' L, c ∈ opL vs m L := by
  intro c hc
  unfold opL at hc ⊢
  rw [List.mem_filter] at hc ⊢
  refine ⟨hc.1, ?_⟩
  have h1 : shutC vs m' c = false := by simpa using hc.2
  have h2 : shutC vs m c = false := by
    unfold shutC at h1 ⊢
    rw [decide_eq_false_iff_not] at h1 ⊢
    omega
  rw [h2]
  rfl
theorem sub_opn {vs : List Vw} {m m' : Int} (h : m ≤ m') (t : Int) : ∀ c ∈ opnL vs m' t, c ∈ opnL vs m t := by
  unfold opnL
  by_cases hc : chkN vs t = 0
  · rw [if_pos hc, if_pos hc]
    exact among_sub h _
  · rw [if_neg hc, if_neg hc]
    exact fun c hc => hc
/-- Is a cell among the first k? -/
def hasC (L : List Ce) (c : Ce) (k : Nat) : Bool := decide (c ∈ L.take k)
theorem hasC_succ {L : List Ce} (c : Ce) {k : Nat} (hk : k < L.length) : hasC L c (k + 1) = (hasC L c k || decide (L.getD k ce0 = c)) := by
  unfold hasC
  rw [← Bool.decide_or]
  congr 1
  apply propext
  rw [List.take_add_one, List.mem_append]
  simp [List.getD, hk, eq_comm]

set_option maxHeartbeats 4000000 in
set_option maxRecDepth 100000 in
theorem among_any {w : World} {u v : Value} {L M : List Ce} (hu : Cr w u L) (hv : Cr w v M) (hs : ∀ c ∈ L, c ∈ M) : Calls Try.prog 27 #[u, v] w fun e w' => e = .returned (.bool true) ∧ Fr w w' (fun _ => False) := by
  have HV := hid hv
  have HU := hid hu
  have HS := hid hs
  obtain ⟨ao, cap, rfl, hl, _⟩ := id hu
  obtain ⟨bo, capu, rfl, hul, _⟩ := id hv
  clear hv hu hs
  go_enter Try.func27, Try.ntmps27
  go_wp2_with fail
  go_loopg [5, 6, 7] L.length (fun n s5 s6 s7 wx => ∃ i : Nat, s5 = .int .i64 (i : Int) ∧ Hid (i + n = L.length) ∧ Hid (Fr w wx (fun _ => False)))
  case atStart => exact ⟨0, rfl, by show _ = _; omega, Fr.refl _ _⟩
  case round =>
    obtain ⟨i, rfl, HG, HF⟩ := hrel
    cases gk with
    | zero =>
      have t1 : ¬ (i : Int) < (L.length : Int) := by have := HG.out; omega
      go_wp2_with fail
      go_ret
      exact ⟨rfl, HF.out⟩
    | succ n =>
      have hi : i < L.length := by have := HG.out; omega
      have t1 : (i : Int) < (L.length : Int) := by omega
      have HMM : Hid (hasC M (L.getD i ce0) M.length = true) := by
        have : L.getD i ce0 = L[i] := by simp [List.getD, hi]
        show _ = _
        unfold hasC
        rw [List.take_length]
        exact decide_eq_true (HS.out _ (by rw [this]; exact List.getElem_mem hi))
      have HUC : Hid (∀ W : World, Fr w W (fun _ => False) → ∃ g, ao = some ⟨g, 0, none⟩ ∧ (W.cell? ⟨g, i * 3, none⟩ = some (.int .i64 ((L.getD i ce0).v : Int)) ∧ W.cell? ⟨g, i * 3 + 1, none⟩ = some (.string ⟨#[]⟩) ∧ W.cell? ⟨g, i * 3 + 2, none⟩ = some (.int .i64 (L.getD i ce0).s)) ∧ g < W.heap.size) := fun W hW => by
        obtain ⟨ao', cap', e, _, hc⟩ := HU.out.fr hW
        obtain ⟨g, r, e2, hr⟩ := hc (by intro e; subst e; simp at hi)
        simp only [Value.slice.injEq] at e
        exact ⟨g, by rw [e.1, e2], hr.get hi, hr.lt⟩
      obtain ⟨g, rfl, _⟩ := HUC.out _ HF.out
      generalize L.getD i ce0 = c at *
      obtain ⟨cvn, cs⟩ := c
      clear hi
      go_wp2_with fail
      generalize wr = W0 at *
      go_loopg [6, 7] M.length (fun p s6 s7 wx => ∃ k : Nat, s7 = .int .i64 (k : Int) ∧ Hid (k + p = M.length) ∧ s6 = .bool (hasC M ⟨cvn, cs⟩ k) ∧ Hid (Fr w wx (fun _ => False)))
      case atStart => exact ⟨0, rfl, by show _ = _; omega, rfl, HF⟩
      case round =>
        obtain ⟨k, rfl, HJ, rfl, HF3⟩ := hrel
        cases gk with
        | zero =>
          have u1 : ¬ (k : Int) < (M.length : Int) := by have := HJ.out; omega
          rw [show k = M.length by have := HJ.out; omega, HMM.out]
          have u1 : ¬ (M.length : Int) < (M.length : Int) := by omega
          go_wp2_with fail
          go_roundg n
          case measure => omega
          case rel => exact ⟨i + 1, by go_num, by have := HG.out; show _ = _; omega, HF3⟩
        | succ p =>
          have hk : k < M.length := by have := HJ.out; omega
          have u1 : (k : Int) < (M.length : Int) := by omega
          have HHS := hid (hasC_succ (L := M) ⟨cvn, cs⟩ hk)
          obtain ⟨g', eg, ⟨c0, c1, c2⟩, hgl⟩ := HUC.out _ HF3.out
          simp only [Option.some.injEq, Addr.mk.injEq, and_true] at eg
          subst eg
          obtain ⟨bo', capu', eu, _, hcu⟩ := HV.out.fr HF3.out
          obtain ⟨gu, ru, eu2, hru⟩ := hcu (by intro e; rw [e] at hk; simp at hk)
          cases eu
          cases eu2
          obtain ⟨d0, d1, d2⟩ := hru.get hk
          have hgu := hru.lt
          clear hcu hru hk
          generalize M.getD k ce0 = d at *
          obtain ⟨dvn, ds⟩ := d
          have hde : decide ((⟨dvn, ds⟩ : Ce) = ⟨cvn, cs⟩) = (decide ((dvn : Int) = (cvn : Int)) && decide (ds = cs)) := by
            rw [← Bool.decide_and]
            congr 1
            apply propext
            rw [Ce.mk.injEq]
            omega
          rw [hde] at HHS
          clear hde
          generalize hasC M ⟨cvn, cs⟩ k = hb at *
          rcases hb with _ | _
          · by_cases e1 : dvn = cvn
            · subst e1
              by_cases e2 : ds = cs
              · subst e2
                have HH2 : Hid (hasC M ⟨dvn, ds⟩ (k + 1) = true) := by show _ = _; rw [HHS.out]; simp
                clear HHS
                go_upto_region 8 with (fail)
                go_quiet (fail)
                go_wp2_with fail
                go_roundg p
                case measure => omega
                case rel => exact ⟨k + 1, by go_num, by have := HJ.out; show _ = _; omega, by rw [HH2.out], HF3.out.drewN _⟩
              · have HH2 : Hid (hasC M ⟨dvn, cs⟩ (k + 1) = false) := by show _ = _; rw [HHS.out, decide_eq_false e2]; simp
                have e3 : (ds == cs) = false := by simpa using e2
                have e4 : decide (ds = cs) = false := decide_eq_false e2
                clear HHS
                go_upto_region 8 with (fail)
                go_quiet (fail)
                go_wp2_with fail
                go_roundg p
                case measure => omega
                case rel => exact ⟨k + 1, by go_num, by have := HJ.out; show _ = _; omega, by rw [HH2.out], HF3.out.drewN _⟩
            · have e2 : ¬ (dvn : Int) = (cvn : Int) := by omega
              have HH2 : Hid (hasC M ⟨cvn, cs⟩ (k + 1) = false) := by show _ = _; rw [HHS.out, decide_eq_false e2]; rfl
              have e3 : ((dvn : Int) == (cvn : Int)) = false := by simpa using e2
              have e4 : decide ((dvn : Int) = (cvn : Int)) = false := decide_eq_false e2
              clear HHS
              go_upto_region 8 with (fail)
              go_quiet (fail)
              go_wp2_with fail
              go_roundg p
              case measure => omega
              case rel => exact ⟨k + 1, by go_num, by have := HJ.out; show _ = _; omega, by rw [HH2.out], HF3.out.drewN _⟩
          · have HH2 : Hid (hasC M ⟨cvn, cs⟩ (k + 1) = true) := by show _ = _; rw [HHS.out]; rfl
            clear HHS
            go_upto_region 8 with (fail)
            go_quiet (fail)
            go_wp2_with fail
            go_roundg p
            case measure => omega
            case rel => exact ⟨k + 1, by go_num, by have := HJ.out; show _ = _; omega, by rw [HH2.out], HF3.out.drewN _⟩
end Go.Proofs.Ytfmhdpenodmblaa
