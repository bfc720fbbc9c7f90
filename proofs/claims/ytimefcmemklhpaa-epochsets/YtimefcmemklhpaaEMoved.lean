/- moved: the walk. -/
import Derived.Test.YtimefcmemklhpaaEMi
import Derived.Deep.QuietTactic
import Derived.BigQuiet
namespace Go.Proofs.Ytimefcmemklhpaa.E
open Go.RowKit Go.Maps Go.MuLone

theorem wpl_mi {w : World} {ops : Array Oper} {rest : List Oper} {o : Oper} {a : Act} {Q : Exit → Act → World → Prop} (hg : o.guard = none) (m x v : Operand) (hop : o.op = Op.mapUpdate 42 m x v)
    (b n : Nat) (f : Int → Int) (e val : Int) (hm : a.eval m = .map (some b)) (hx : a.eval x = .int .i64 e) (hv : a.eval v = .int .i64 val) (h : Mi w b n f) (hn : n < maxLen) (hwe : fits e) (hwv : fits val)
    (hK : ∀ w', Mi w' b (n + 1) (updI f e val) → w.grownBy w' (some b) → wpList Try.prog ops Q rest (a.put o.dst undef) w') : wpList Try.prog ops Q (o :: rest) a w := by
  obtain ⟨D, h1, h2, h3⟩ := h
  refine wpList_mapUpdate_own w hg m x v 42 hop 3 3 law Try.underlying42 _ b n D hm h1 hn _ _ (.int .i64 e) hx hv (keyI (fits_wf hwe)) _ [] (plainElem_int Try.underlying3 (fits_wf hwv)) ?_
  intro w' hown hgr
  refine hK w' ⟨_, hown, hown.isMap, fun y => ?_⟩ hgr
  by_cases hy : y = e
  · subst hy
    rw [atKey_put_same (k := .int .i64 y) h2 trivial]
    simp [updI]
  · rw [atKey_put_other (by intro h; simp at h; exact hy h), h3]
    simp [updI, hy]
theorem Mi.drewN {w : World} {b n : Nat} {f : Int → Int} (h : Mi w b n f) (k : Nat) : Mi (w.drewN k) b n f := h
theorem ri_getD {l : List Int} (h : Ri l) {i : Nat} (hi : i + 1 < l.length) : l.getD i 0 < l.getD (i + 1) 0 := by
  have := List.pairwise_iff_getElem.1 h i (i + 1) (by omega) hi (by omega)
  simpa [List.getD, hi, (by omega : i < l.length)] using this
theorem getD_mem {l : List Int} {i : Nat} (hi : i < l.length) : l.getD i 0 ∈ l := by simp [List.getD, hi]
theorem mem_take {l : List Int} {i : Nat} (hi : i < l.length) {x : Int} : x ∈ l.take (i + 1) ↔ x ∈ l.take i ∨ x = l.getD i 0 := by
  rw [List.take_add_one, List.mem_append, List.getElem?_eq_getElem hi]
  simp [List.getD, hi]
theorem ri_take {l : List Int} (h : Ri l) {i : Nat} (hi : i < l.length) : l.getD i 0 ∉ l.take i := by
  intro hm
  obtain ⟨j, hj, e⟩ := List.mem_iff_getElem.1 hm
  simp only [List.length_take] at hj
  have := List.pairwise_iff_getElem.1 h j i (by omega) hi (by omega)
  rw [List.getElem_take] at e
  simp [List.getD, hi] at e
  omega

/-- What the map 'now' answers. -/
def nowF (H D : List Int) (x : Int) : Int := if x ∈ D then 2 else if x ∈ H then 1 else 0
/-- What the map 'state' answers behind it, up to some epoch. -/
def movedF (H D : List Int) (f : Int → Int) (n : Int) (x : Int) : Int := if 1 ≤ x ∧ x < n ∧ nowF H D x ≠ 0 then nowF H D x else f x
/-- What it asks. -/
structure Mq (H D : List Int) (f : Int → Int) (n : Int) : Prop where
  rh : Ri H
  rd : Ri D
  fh : ∀ x ∈ H, f x = 1 ∧ fits x
  fd : ∀ x ∈ D, f x ≠ 3 ∧ f x ≠ 0 ∧ x ∉ H ∧ fits x
  all : ∀ x, 1 ≤ x → x ≤ n → f x = 3 ∨ x ∈ H ∨ x ∈ D
  ff : ∀ x, fits (f x)

theorem nowF_step {H : List Int} {i : Nat} (hi : i < H.length) (x : Int) : updI (nowF (H.take i) []) (H.getD i 0) 1 x = nowF (H.take (i + 1)) [] x := by
  have h0 : ∀ L, nowF L [] x = if x ∈ L then 1 else 0 := fun L => by unfold nowF; rw [if_neg List.not_mem_nil]
  unfold updI
  rw [h0, h0]
  by_cases h : x = H.getD i 0
  · rw [if_pos h, if_pos ((mem_take hi).2 (Or.inr h))]
  · rw [if_neg h]
    by_cases h' : x ∈ H.take i
    · rw [if_pos h', if_pos ((mem_take hi).2 (Or.inl h'))]
    · rw [if_neg h', if_neg (fun e => ((mem_take hi).1 e).elim h' h)]
theorem nowF_step2 {H D : List Int} {i : Nat} (hi : i < D.length) (x : Int) : updI (nowF H (D.take i)) (D.getD i 0) 2 x = nowF H (D.take (i + 1)) x := by
  unfold updI nowF
  by_cases h : x = D.getD i 0
  · rw [if_pos h, if_pos ((mem_take hi).2 (Or.inr h))]
  · rw [if_neg h]
    by_cases h' : x ∈ D.take i
    · rw [if_pos h', if_pos ((mem_take hi).2 (Or.inl h'))]
    · rw [if_neg h', if_neg (fun e => ((mem_take hi).1 e).elim h' h)]
theorem nowF_zero {H D : List Int} {x : Int} : nowF H D x = 0 ↔ x ∉ D ∧ x ∉ H := by
  unfold nowF
  by_cases h1 : x ∈ D
  · simp [h1]
  · by_cases h2 : x ∈ H
    · simp [h1, h2]
    · simp [h1, h2]
theorem nowF_fits (H D : List Int) (x : Int) : fits (nowF H D x) := by
  unfold nowF fits
  split
  · omega
  · split <;> omega
theorem movedF_here (H D : List Int) (f : Int → Int) (n : Int) : movedF H D f n n = f n := by
  unfold movedF
  rw [if_neg (by omega)]
theorem movedF_keep {H D : List Int} {f : Int → Int} {n : Int} (h : nowF H D n = 0) (x : Int) : movedF H D f n x = movedF H D f (n + 1) x := by
  unfold movedF
  by_cases e : x = n
  · subst e
    rw [if_neg (by omega), if_neg (by omega)]
  · by_cases h' : 1 ≤ x ∧ x < n ∧ nowF H D x ≠ 0
    · rw [if_pos h', if_pos (by omega)]
    · rw [if_neg h', if_neg (by omega)]
theorem movedF_step {H D : List Int} {f : Int → Int} {n : Int} (hn : 1 ≤ n) (h : nowF H D n ≠ 0) (x : Int) : updI (movedF H D f n) n (nowF H D n) x = movedF H D f (n + 1) x := by
  unfold updI movedF
  by_cases e : x = n
  · subst e
    rw [if_pos rfl, if_pos (by omega)]
  · rw [if_neg e]
    by_cases h' : 1 ≤ x ∧ x < n ∧ nowF H D x ≠ 0
    · rw [if_pos h', if_pos (by omega)]
    · rw [if_neg h', if_neg (by omega)]

set_option maxHeartbeats 1000000 in
set_option maxRecDepth 100000 in
theorem moved_any {w : World} {M n b1 b2 : Nat} {f : Int → Int} {v u : Value} {H D : List Int} {se : Nat} (hm : Mi w M n f) (h1 : OwI w b1 v H) (h2 : OwI w b2 u D) (hq : Mq H D f se) (hse : se ≤ 3000) (hn : n ≤ 4000000000) (hH : H.length ≤ 4398046511000) (hD : D.length ≤ 4398046511000) :
    Calls Try.prog 23 #[.map (some M), v, u, .int .i64 (se : Int)] w fun e w' => e = .returned (.bool true) ∧ Mi w' M (n + se) (movedF H D f ((se : Int) + 1)) ∧ Fr w w' (fun k => k = M) := by
  obtain ⟨ao, ac, rfl, am, ag⟩ := h1.at
  obtain ⟨bo, bcap, rfl, bm, bg⟩ := h2.at
  have AG := hid ag
  have BG := hid bg
  have HM := hid hm
  have HQ := hid hq
  have HMl := hid hm.lt
  unfold maxLen at am bm
  clear h1 h2 ag bg hm hq
  have hmm := @run_makeMap Try.prog
  go_enter Try.func23, Try.ntmps23
  go_wp2_with fail
  clear hmm
  have HN0 := hid (Mi.new w)
  have HF0 := hid (alloc_fr w (.map #[] 0) (fun _ => False))
  generalize hW0 : w.alloc (.map #[] 0) = w0 at *
  generalize hNN : w.heap.size = N at *
  have HNM := hid (show N ≠ M by have := HMl.out; omega)
  have HNN := hid hNN
  clear hW0 hNN
  show Code.wp _ _ _ _ _
  go_loopg [10] H.length (fun g s10 wx => ∃ i : Nat, s10 = .int .i64 (i : Int) ∧ i + g = H.length ∧ Hid (Mi wx N i (nowF (H.take i) [])) ∧ Hid (Fr w wx (fun _ => False)))
  case atStart => exact ⟨0, rfl, by omega, HN0.out.eq (fun x => by simp [nowF]), HF0⟩
  case round =>
    obtain ⟨i, rfl, hg, HN, HF⟩ := hrel
    clear HN0 HF0
    cases gk with
    | zero =>
      have t1 : ¬ (i : Int) < (H.length : Int) := by omega
      have HN1 : Hid (Mi wr N (H.length + 0) (nowF H (D.take 0))) := by
        have h := HN.out
        rw [show i = H.length by omega, List.take_length] at h
        exact h
      clear hg HN
      go_wp2_with fail
      go_loopg [11] D.length (fun g s11 wx => ∃ i : Nat, s11 = .int .i64 (i : Int) ∧ i + g = D.length ∧ Hid (Mi wx N (H.length + i) (nowF H (D.take i))) ∧ Hid (Fr w wx (fun _ => False)))
      case atStart => exact ⟨0, rfl, by omega, HN1, HF⟩
      case round =>
        clear HN1 HF t1
        obtain ⟨i, rfl, hg, HN, HF⟩ := hrel
        cases gk with
        | zero =>
          have t1 : ¬ (i : Int) < (D.length : Int) := by omega
          have HN1 : Hid (Mi wr N (H.length + D.length) (nowF H D)) := by
            have h := HN.out
            rw [show i = D.length by omega, List.take_length] at h
            exact h
          have HM1 : Hid (Mi wr M (n + 0) (movedF H D f ((0 : Nat) + 1 : Int))) := (HM.out.fr HF.out (fun h => h)).eq (fun x => by unfold movedF; rw [if_neg (by omega)])
          have HF1 := hid (HF.out.mono (fun _ _ h => h.elim) : Fr w wr (fun k => k = M))
          clear hg HN HF HM
          go_wp2_with fail
          go_loopg [12] se (fun g s12 wx => ∃ i : Nat, s12 = .int .i64 ((i : Int) + 1) ∧ i + g = se ∧ Hid (Mi wx N (H.length + D.length) (nowF H D)) ∧ Hid (Mi wx M (n + i) (movedF H D f ((i : Int) + 1))) ∧ Hid (Fr w wx (fun k => k = M)))
          case atStart => exact ⟨0, rfl, by omega, HN1, HM1, HF1⟩
          case round =>
            clear HN1 HM1 HF1 t1
            obtain ⟨i, rfl, hg, HN, HM, HF⟩ := hrel
            cases gk with
            | zero =>
              have t1 : ¬ (i : Int) + 1 ≤ (se : Int) := by omega
              have HI := hid (show i = se by omega)
              clear hg
              go_wp2_with fail
              go_ret
              rw [HI.out] at HM
              exact ⟨rfl, HM.out, HF.out⟩
            | succ g =>
              have t1 : (i : Int) + 1 ≤ (se : Int) := by omega
              have hfx : fits ((i : Int) + 1) := by unfold fits; omega
              have hl1 := HM.out.look (fits_wf hfx)
              have hl2 := HN.out.look (fits_wf hfx)
              rw [movedF_here] at hl1
              have HA := hid (HQ.out.all ((i : Int) + 1) (by omega) t1)
              have HG := hid hg
              have HFX := hid hfx
              have HZf := hid (nowF_fits H D ((i : Int) + 1))
              clear hg
              by_cases hz : nowF H D ((i : Int) + 1) = 0
              · have hy : f ((i : Int) + 1) = 3 := by
                  rcases HA.out with h | h | h
                  · exact h
                  · exact absurd h (nowF_zero.1 hz).2
                  · exact absurd h (nowF_zero.1 hz).1
                rw [hz] at hl2
                rw [hy] at hl1
                have HK := hid (movedF_keep (f := f) hz)
                clear hz hy
                go_wp2_with fail
                go_roundg g
                case rel => exact ⟨i + 1, by simp, by have := HG.out; omega, HN, (HM.out.eq HK.out).mono (by omega), HF⟩
                case measure => omega
              · have HK := hid (movedF_step (f := f) (show 1 ≤ (i : Int) + 1 by omega) hz)
                generalize hzz : nowF H D ((i : Int) + 1) = z at *
                generalize f ((i : Int) + 1) = y at *
                by_cases hy : y = 3
                · subst hy
                  go_wp2_with (at_mapUpdate; go_must (refine wpl_mi rfl _ _ _ rfl M (n + i) (movedF H D f ((i : Int) + 1)) ((i : Int) + 1) z rfl rfl rfl HM.out (by unfold maxLen; omega) HFX.out HZf.out ?_))
                  intro w2 hm2 hg2
                  have HM2 := hid (hm2.eq HK.out)
                  have HF2 := hid (HF.out.grown hg2 (fun k _ e => by cases e; rfl))
                  have HN2 := hid (HN.out.at (hg2.block N HN.out.lt (fun e => HNM.out (by cases e; rfl))))
                  clear hm2 hg2
                  go_wp2_with fail
                  go_roundg g
                  case rel => exact ⟨i + 1, by simp, by have := HG.out; omega, HN2, HM2, HF2⟩
                  case measure => omega
                · have he1 : (y != 3) = true := by simp [hy]
                  have he2 : (z == 0) = false := by simp [hz]
                  have he3 : (z != 0) = true := by simp [hz]
                  have he4 : decide (y = 3) = false := by simp [hy]
                  have he5 : decide (z = 0) = false := by simp [hz]
                  go_wp2_with (at_mapUpdate; go_must (refine wpl_mi rfl _ _ _ rfl M (n + i) (movedF H D f ((i : Int) + 1)) ((i : Int) + 1) z rfl rfl rfl HM.out (by unfold maxLen; omega) HFX.out HZf.out ?_))
                  intro w2 hm2 hg2
                  have HM2 := hid (hm2.eq HK.out)
                  have HF2 := hid (HF.out.grown hg2 (fun k _ e => by cases e; rfl))
                  have HN2 := hid (HN.out.at (hg2.block N HN.out.lt (fun e => HNM.out (by cases e; rfl))))
                  clear hm2 hg2
                  go_wp2_with fail
                  go_roundg g
                  case rel => exact ⟨i + 1, by simp, by have := HG.out; omega, HN2, HM2, HF2⟩
                  case measure => omega
        | succ g =>
          have hi : i < D.length := by omega
          have t1 : (i : Int) < (D.length : Int) := by omega
          obtain ⟨g1, rfl, hc1⟩ := BG.out (by rintro rfl; simp at hi)
          have c0 := hc1 i hi
          have hbw := HF.out.below (Nat.le_refl _) (fun _ h => h.elim)
          have c1 : wr.cell? ⟨g1, i, none⟩ = some (.int .i64 (D.getD i 0)) := (hbw.cell (p := ⟨g1, i, none⟩) (World.block_lt_of_cell? w _ c0)).trans c0
          have b1 := World.block_lt_of_cell? wr _ c1
          dsimp only at b1
          have hxm := getD_mem hi
          obtain ⟨y3, y0, yH, yf⟩ := HQ.out.fd _ hxm
          have hl := fun k => ((HM.out.fr HF.out (fun h => h)).drewN k).look (fits_wf yf)
          have hl2 := fun k => (HN.out.drewN k).look (fits_wf yf)
          rw [nowF_zero.2 ⟨ri_take HQ.out.rd hi, yH⟩] at hl2
          have hd3 : decide (f (D.getD i 0) = 3) = false := decide_eq_false y3
          have hd0 : decide (f (D.getD i 0) = 0) = false := decide_eq_false y0
          have he3 : (f (D.getD i 0) == 3) = false := beq_eq_false_iff_ne.2 y3
          have he0 : (f (D.getD i 0) == 0) = false := beq_eq_false_iff_ne.2 y0
          have HSt := hid (nowF_step2 (H := H) hi)
          have HG := hid hg
          have HX := hid yf
          by_cases h0 : i = 0
          · subst h0
            generalize D.getD 0 0 = x at *
            generalize f x = y at *
            clear hg hc1 hbw c0 hxm hi y3 y0 yH yf
            go_wp2_with fail
            go_big_quiet (fail)
            go_wp2_with (at_mapUpdate; go_must (refine wpl_mi rfl _ _ _ rfl N (H.length + 0) (nowF H (D.take 0)) x 2 rfl rfl rfl (HN.out.drewN _) (by unfold maxLen; omega) HX.out (by unfold fits; omega) ?_))
            intro w2 hm2 hg2
            have HN2 := hid (hm2.eq HSt.out)
            have HF2 := hid ((HF.out.drewN nq).grown hg2 (fun k hk e => by cases e; have := HNN.out; omega))
            clear hm2 hg2
            go_wp2_with fail
            go_roundg g
            case rel => exact ⟨0 + 1, by simp, by have := HG.out; omega, HN2, HF2⟩
            case measure => omega
          · obtain ⟨j, rfl⟩ : ∃ j, i = j + 1 := ⟨i - 1, by omega⟩
            have c0' := hc1 j (by omega)
            have c2 : wr.cell? ⟨g1, j, none⟩ = some (.int .i64 (D.getD j 0)) := (hbw.cell (p := ⟨g1, j, none⟩) (World.block_lt_of_cell? w _ c0')).trans c0'
            have hlt := ri_getD HQ.out.rd hi
            have hd : decide (D.getD (j + 1) 0 ≤ D.getD j 0) = false := decide_eq_false (by omega)
            generalize D.getD (j + 1) 0 = x at *
            generalize D.getD j 0 = x' at *
            generalize f x = y at *
            clear hg hc1 hbw c0 c0' hxm y3 y0 yH yf hlt h0
            go_wp2_with fail
            go_big_quiet (fail)
            go_wp2_with (at_mapUpdate; go_must (refine wpl_mi rfl _ _ _ rfl N (H.length + (j + 1)) (nowF H (D.take (j + 1))) x 2 rfl rfl rfl (HN.out.drewN _) (by unfold maxLen; omega) HX.out (by unfold fits; omega) ?_))
            intro w2 hm2 hg2
            have HN2 := hid (hm2.eq HSt.out)
            have HF2 := hid ((HF.out.drewN nq).grown hg2 (fun k hk e => by cases e; have := HNN.out; omega))
            clear hm2 hg2
            go_wp2_with fail
            go_roundg g
            case rel => exact ⟨j + 1 + 1, by simp, by have := HG.out; omega, HN2, HF2⟩
            case measure => omega
    | succ g =>
      have hi : i < H.length := by omega
      have t1 : (i : Int) < (H.length : Int) := by omega
      obtain ⟨g1, rfl, hc1⟩ := AG.out (by rintro rfl; simp at hi)
      have c0 := hc1 i hi
      have hbw := HF.out.below (Nat.le_refl _) (fun _ h => h.elim)
      have c1 : wr.cell? ⟨g1, i, none⟩ = some (.int .i64 (H.getD i 0)) := (hbw.cell (p := ⟨g1, i, none⟩) (World.block_lt_of_cell? w _ c0)).trans c0
      have b1 := World.block_lt_of_cell? wr _ c1
      dsimp only at b1
      have hxm := getD_mem hi
      have hl := fun k => ((HM.out.fr HF.out (fun h => h)).drewN k).look (fits_wf (HQ.out.fh _ hxm).2)
      rw [(HQ.out.fh _ hxm).1] at hl
      have HG := hid hg
      have HX := hid (HQ.out.fh _ hxm).2
      have HSt := hid (nowF_step hi)
      by_cases h0 : i = 0
      · subst h0
        generalize H.getD 0 0 = x at *
        clear hg hc1 hbw c0 hxm hi
        go_wp2_with fail
        go_big_quiet (fail)
        go_wp2_with (at_mapUpdate; go_must (refine wpl_mi rfl _ _ _ rfl N 0 (nowF (H.take 0) []) x 1 rfl rfl rfl (HN.out.drewN _) (by unfold maxLen; omega) HX.out (by unfold fits; omega) ?_))
        intro w2 hm2 hg2
        have HN2 := hid (hm2.eq HSt.out)
        have HF2 := hid ((HF.out.drewN nq).grown hg2 (fun k hk e => by cases e; have := HNN.out; omega))
        clear hm2 hg2
        go_wp2_with fail
        go_roundg g
        case rel => exact ⟨0 + 1, by simp, by have := HG.out; omega, HN2, HF2⟩
        case measure => omega
      · obtain ⟨j, rfl⟩ : ∃ j, i = j + 1 := ⟨i - 1, by omega⟩
        have c0' := hc1 j (by omega)
        have c2 : wr.cell? ⟨g1, j, none⟩ = some (.int .i64 (H.getD j 0)) := (hbw.cell (p := ⟨g1, j, none⟩) (World.block_lt_of_cell? w _ c0')).trans c0'
        have hlt := ri_getD HQ.out.rh hi
        have hd : decide (H.getD (j + 1) 0 ≤ H.getD j 0) = false := decide_eq_false (by omega)
        generalize H.getD (j + 1) 0 = x at *
        generalize H.getD j 0 = x' at *
        clear hg hc1 hbw c0 c0' hxm hlt h0
        go_wp2_with fail
        go_big_quiet (fail)
        go_wp2_with (at_mapUpdate; go_must (refine wpl_mi rfl _ _ _ rfl N (j + 1) (nowF (H.take (j + 1)) []) x 1 rfl rfl rfl (HN.out.drewN _) (by unfold maxLen; omega) HX.out (by unfold fits; omega) ?_))
        intro w2 hm2 hg2
        have HN2 := hid (hm2.eq HSt.out)
        have HF2 := hid ((HF.out.drewN nq).grown hg2 (fun k hk e => by cases e; have := HNN.out; omega))
        clear hm2 hg2
        go_wp2_with fail
        go_roundg g
        case rel => exact ⟨j + 1 + 1, by simp, by have := HG.out; omega, HN2, HF2⟩
        case measure => omega
end Go.Proofs.Ytimefcmemklhpaa.E
