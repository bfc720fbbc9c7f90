/- The document's Lists: a walk. -/
import Derived.Test.YtilgkfpicdmkkaaMRLists0
import Derived.Test.YtilgkfpicdmkkaaMRRows
namespace Go.Proofs.Ytilgkfpicdmkkaa.M
open Go.RowKit

structure RJ (w wx : World) (n : Nat) (ls : List (List Int)) (d : Nat → Nat) (done : List Int) (s : Value) : Prop where
  own : wx.ownsRow w.heap.size 3 1 (.slice (some ⟨w.heap.size, 0, none⟩) n n) n (I.iv (dI n d))
  out : wx.ownsRow (w.heap.size + 1) 3 1 s (I.ded done).length (I.iv (I.ded done))
  fr : Fr w wx (fun _ => False)
  hd : ∀ p, p < n → d p ≤ (I.gl ls p).length
  eq : merged I.cmE ls = done ++ merged I.cmE (FJ ls d)
theorem RJ.step {w wx wy : World} {n : Nat} {ls : List (List Int)} {d : Nat → Nat} {done : List Int} {s : Value} (h : RJ w wx n ls d done s) (hf : Fr wx wy (fun _ => False)) : RJ w wy n ls d done s := ⟨own_fr h.own hf (fun _ _ h => h), own_fr h.out hf (fun _ _ h => h), h.fr.trans hf, h.hd, h.eq⟩
theorem RJ.at {w wx : World} {n : Nat} {ls : List (List Int)} {d : Nat → Nat} {done : List Int} {s : Value} (h : RJ w wx n ls d done s) {p : Nat} (hp : p < n) : wx.cell? ⟨w.heap.size, p, none⟩ = some (.int .i64 ((d p : Nat) : Int)) := by
  have h1 := h.own
  have e := owni_el (L := dI n d) (by rw [dI_len]; exact h1) p (by rw [dI_len]; exact hp)
  rw [dI_get hp] at e
  exact e
/-- A round's end: one more is read. -/
theorem RJ.next {w wc : World} {n : Nat} {ls : List (List Int)} {d : Nat → Nat} {done : List Int} {s : Value} {k : Nat} {y : Int} (hown : wc.ownsRow w.heap.size 3 1 (.slice (some ⟨w.heap.size, 0, none⟩) n n) n (I.iv (dI n d))) (hout : wc.ownsRow (w.heap.size + 1) 3 1 s (I.ded (done ++ [y])).length (I.iv (I.ded (done ++ [y])))) (hfr : Fr w wc (fun _ => False)) (hd : ∀ p, p < n → upd d k p ≤ (I.gl ls p).length) (heq : merged I.cmE ls = (done ++ [y]) ++ merged I.cmE (FJ ls (upd d k))) : RJ w (wc.setCell ⟨w.heap.size, k, none⟩ (.int .i64 (((d k : Nat) : Int) + 1))) n ls (upd d k) (done ++ [y]) s := by
  have f1 : Fr wc (wc.setCell ⟨w.heap.size, k, none⟩ (.int .i64 (((d k : Nat) : Int) + 1))) (fun b => b = w.heap.size) := Fr.setCell (S := fun b => b = w.heap.size) (Fr.refl wc (fun b => b = w.heap.size)) (p := ⟨w.heap.size, k, none⟩) (fun _ => rfl) _
  refine ⟨?_, own_fr hout f1 (fun b e h => by have := (hout.lt b e).1; omega), hfr.setCell (p := ⟨w.heap.size, k, none⟩) (fun h => absurd h (Nat.lt_irrefl _)) _, hd, heq⟩
  have h1 := own_setN hown (g := w.heap.size) rfl k (.int .i64 (((d k : Nat) : Int) + 1))
  have h2 : (I.iv (dI n d)).set k (.int .i64 (((d k : Nat) : Int) + 1)) = I.iv (dI n (upd d k)) := by
    rw [← dI_upd]
    unfold I.iv
    rw [List.map_set]
  rw [h2] at h1
  exact h1

/-- A row beside another that grows. -/
theorem own_beside {W W4 : World} {b0 N n m : Nat} {xs ys : List Value} {v : Value} (ha : W.ownsRow b0 3 1 (.slice (some ⟨N, 0, none⟩) n n) n xs) (ho : W.ownsRow (N + 1) 3 1 v m ys) (hg : W.grownBy W4 v.ownBlock) : W4.ownsRow b0 3 1 (.slice (some ⟨N, 0, none⟩) n n) n xs :=
  own_fr ha ((Fr.refl W (fun k => v.ownBlock = some k)).grown hg (fun _ _ e => e)) (fun k hk e => by
    have := (ho.lt k e).1
    simp [Value.ownBlock] at hk
    omega)
/-- What stands ahead of a round's end. -/
theorem at_now {wc : World} {N n k : Nat} {d : Nat → Nat} (h : wc.ownsRow N 3 1 (.slice (some ⟨N, 0, none⟩) n n) n (I.iv (dI n d))) (hk : k < n) : wc.cell? ⟨N, k, none⟩ = some (.int .i64 ((d k : Nat) : Int)) ∧ (∀ o, wc.frozen? ⟨N, o, none⟩ = false) ∧ N < wc.heap.size := by
  have e := owni_el (L := dI n d) (by rw [dI_len]; exact h) k (by rw [dI_len]; exact hk)
  rw [dI_get hk] at e
  exact ⟨e, own_freeN h⟩

set_option maxHeartbeats 8000000 in
set_option maxRecDepth 100000 in
theorem rlists_any {sv : Nat → I.Sv} {ls : List (List Int)} {lv : Value} (w : World) (h : I.LsAt w sv ls lv) (ht : tot ls ≤ 1000000) (hS : ∀ l ∈ ls, l.Pairwise (fun a b => a ≤ b)) :
    Calls Try.prog 15 #[lv] w fun e w' => ∃ v, e = .returned v ∧ I.Eo w w' v (I.ded (merged I.cmE ls)) := by
  obtain ⟨ao, cap, rfl, hn9⟩ : ∃ ao cap, lv = .slice ao ls.length cap ∧ ls.length ≤ 900000 := by
    obtain ⟨ao, cap, e, hn, _⟩ := h
    exact ⟨ao, cap, e, hn⟩
  have HH := hid (fun p (hp : p < ls.length) => lj_hdr h hp)
  have HSrt := hid (srt_cm hS)
  clear h hS
  have HM0 := hid (made_own w ls.length hn9)
  have HZ := hid (FJ_zero ls)
  have HE0 : Hid (I.ded [] = []) := rfl
  have hmk := run_make_row' (P := Try.prog) 36 3 (.int .i64 0) 8 Try.underlying36 Try.info_int rfl .i64 .i64 ls.length (by omega) (by omega) w
  go_enter Try.func15, Try.ntmps15
  go_wp2_with fail
  go_loopg [3] (tot ls) (fun g s3 wx => ∃ (done : List Int) (d : Nat → Nat), tot (FJ ls d) ≤ g ∧ done.length + tot (FJ ls d) = tot ls ∧ Hid (RJ w wx ls.length ls d done s3))
  case atStart => exact ⟨[], fun _ => 0, by rw [HZ.out]; omega, by rw [HZ.out]; simp, HM0.out, ⟨rfl, Or.inl ⟨rfl, rfl⟩⟩, alloc_fr w _ _, fun _ _ => Nat.zero_le _, by rw [HZ.out]; simp⟩
  case round =>
    obtain ⟨done, d, hg, hdl, HR⟩ := hrel
    obtain ⟨a3, c3, e3⟩ := own_nil_shape HR.out.out
    subst e3
    clear HM0 HZ
    generalize wr = V at *
    go_wp2_with fail
    go_loopg [5, 6] ls.length (fun g s5 s6 wx => ∃ (i : Nat) (ko : Option Nat), s5 = .int .i64 (kI ko) ∧ s6 = .int .i64 (i : Int) ∧ i + g = ls.length ∧ Hid (Bst I.cmE (FJ ls d) i ko) ∧ Hid (Fr V wx (fun _ => False)))
    case atStart => exact ⟨0, none, rfl, rfl, by omega, Bst.zero _, Fr.refl _ _⟩
    case round =>
      obtain ⟨i, ko, rfl, rfl, hi, HBs, HF⟩ := hrel
      generalize wr = V1 at *
      have HR1 := hid (HR.out.step HF.out)
      cases gk with
      | zero =>
        have t1 : ¬ (i : Int) < (ls.length : Int) := by omega
        have hin : i = ls.length := by omega
        cases ko with
        | none =>
          have HM : Hid (merged I.cmE ls = done) := by
            have h1 := HBs.out
            rw [hin, ← FJ_len ls d] at h1
            show merged I.cmE ls = done
            rw [HR.out.eq, Bst.done I.cmE_cm h1, List.append_nil]
          unfold kI
          clear hin hi
          go_wp2_with fail
          go_ret
          refine ⟨_, rfl, ?_⟩
          rw [HM.out]
          exact ⟨own_mono HR1.out.out (Nat.le_succ _), HR1.out.fr⟩
        | some k =>
          have h1 := HBs.out
          rw [hin, ← FJ_len ls d] at h1
          have hkn : k < ls.length := by have := h1.1; rw [FJ_len] at this; exact this
          have hnk := h1.2.1
          obtain ⟨hM1, hM2⟩ := h1.take I.cmE_cm
          rw [FJ_set hkn, FJ_hd hkn] at hM1
          rw [FJ_set hkn] at hM2
          obtain ⟨G, off, e1, a, cc, hc, hle, hel⟩ := HH.out k hkn
          subst e1
          have hltk : d k < (I.gl ls k).length := by
            rw [FJ_rst hkn] at hnk
            rcases Nat.lt_or_ge (d k) (I.gl ls k).length with h | h
            · exact h
            · exact absurd (List.drop_eq_nil_of_le h) hnk
          obtain ⟨b, o, e2, hE⟩ := hel (d k) hltk
          subst e2
          have y0 := ci_fr hE HR1.out.fr
          have z1 := ci_fr hc HR1.out.fr
          have z0 := HR1.out.at hkn
          have l0 := World.block_lt_of_cell? _ _ z0
          have l1 := World.block_lt_of_cell? _ _ z1
          have l2 := World.block_lt_of_cell? _ _ y0
          have s1 : ((d k : Nat) : Int) < ((I.gl ls k).length : Int) := by omega
          have s0 : (0 : Int) ≤ ((d k : Nat) : Int) := by omega
          have s4 : (0 : Int) ≤ (k : Int) := by omega
          have s5' : (k : Int) < (ls.length : Int) := by omega
          have s6 : ¬ (k : Int) < 0 := by omega
          have HEq : Hid (merged I.cmE ls = (done ++ [(I.gl ls k)[d k]?.getD default]) ++ merged I.cmE (FJ ls (upd d k))) := by
            show _ = _
            rw [HR1.out.eq, hM1]
            simp
          have HDu : Hid (∀ p, p < ls.length → upd d k p ≤ (I.gl ls p).length) := fun p hp => by
            unfold upd
            split
            · rename_i e; rw [e]; omega
            · exact HR1.out.hd p hp
          have HLe : Hid (∀ a ∈ done, a ≤ (I.gl ls k)[d k]?.getD default) := by
            have h9 := HSrt.out
            rw [HEq.out, List.append_assoc] at h9
            exact srt_done h9
          have HDd := hid (ded_ne HLe.out)
          have HAt := hid HR1.out.own
          have HOu := hid HR1.out.out
          have HFw := hid HR1.out.fr
          have hdd := I.ded_len done
          have hfz := (own_freeN HAt.out).1
          unfold kI
          clear hel hc hE hnk h1 hM1 hin hi HLe
          generalize (I.gl ls k)[d k]?.getD default = y at *
          generalize (I.gl ls k).length = m at *
          have HNx := hid (fun (wc : World) (s : Value) (ho : wc.ownsRow (w.heap.size + 1) 3 1 s (I.ded (done ++ [y])).length (I.iv (I.ded (done ++ [y])))) (ha : wc.ownsRow w.heap.size 3 1 (.slice (some ⟨w.heap.size, 0, none⟩) ls.length ls.length) ls.length (I.iv (dI ls.length d))) (hf : Fr w wc (fun _ => False)) => RJ.next (k := k) ha ho hf HDu.out HEq.out)
          generalize hdk : d k = dk at *
          have HDk := hid hdk
          clear hdk
          have HL := hid (show (done ++ [y]).length + tot (FJ ls (upd d k)) = tot ls by rw [List.length_append, List.length_singleton]; omega)
          have HM2 := hid hM2
          clear hM2
          generalize hD : I.ded done = D at *
          have HDe := hid hD
          clear hD HEq HDu HR HR1
          go_wp2_with fail
          go_quiet (fail)
          have HAn := hid (own_fr HAt.out (show Fr V1 (World.drewN V1 nq) (fun _ => False) from by repeat (first | with_reducible exact Fr.refl _ _ | with_reducible apply Fr.drew | with_reducible apply Fr.drewN)) (fun _ _ h => h))
          have HOn := hid (own_fr HOu.out (show Fr V1 (World.drewN V1 nq) (fun _ => False) from by repeat (first | with_reducible exact Fr.refl _ _ | with_reducible apply Fr.drew | with_reducible apply Fr.drewN)) (fun _ _ h => h))
          have HFn := hid (Fr.trans HFw.out (show Fr V1 (World.drewN V1 nq) (fun _ => False) from by repeat (first | with_reducible exact Fr.refl _ _ | with_reducible apply Fr.drew | with_reducible apply Fr.drewN)))
          generalize World.drewN V1 nq = Vz at *
          have hVz : w.heap.size + 1 ≤ Vz.heap.size := (own_freeN HAn.out).2
          clear z0 z1 y0 l0 l1 l2 HAt HOu HFw hfz
          by_cases hD0 : D = []
          · rw [if_pos (Or.inl hD0)] at HDd
            subst hD0
            clear HDe
            go_wp2_with (at_builtin; go_must (refine wpl_eb (base := w.heap.size + 1) rfl (.tmp 81) (.tmp 83) rfl _ [] rfl Vz.heap.size y rfl ?c1 ?c2 ?c3 ?c4 ?_))
            case c1 => first | omega | simp
            case c2 => exact own_fr HOn.out (alloc_fr _ _ _) (fun _ _ h => h)
            case c3 => first | omega | (simp; omega)
            try (case c4 => exact cell_of_one (heap_last Vz (.cells #[.int .i64 y] 3) _ rfl))
            intro v2 w4 hO hg4
            have HO4 := hid hO
            have HA4 := hid (own_beside (own_fr HAn.out (alloc_fr Vz (.cells #[.int .i64 y] 3) (fun _ => False)) (fun _ _ h => h)) (own_fr HOn.out (alloc_fr Vz (.cells #[.int .i64 y] 3) (fun _ => False)) (fun _ _ h => h)) hg4)
            have HF4 := hid ((HFn.out.alloc (.cells #[.int .i64 y] 3)).grown hg4 (fun j hj e => by have := ((own_fr HOn.out (alloc_fr Vz (.cells #[.int .i64 y] 3) (fun _ => False)) (fun _ _ h => h)).lt j e).1; omega))
            clear hO hg4
            obtain ⟨q0, q1, q2⟩ := at_now HA4.out hkn
            rw [HDk.out] at q0
            have HO5 : Hid (w4.ownsRow (w.heap.size + 1) 3 1 v2 (I.ded (done ++ [y])).length (I.iv (I.ded (done ++ [y])))) := by
              show w4.ownsRow _ _ _ _ _ _
              rw [HDd.out]
              exact HO4.out
            have HRn := hid (HNx.out w4 v2 HO5.out HA4.out HF4.out)
            clear HO4 HO5 HA4 HF4 HNx
            go_wp2_with fail
            go_roundg (tot (FJ ls (upd d k)))
            case measure => have := HM2.out; omega
            case rel => exact ⟨done ++ [y], upd d k, Nat.le_refl _, HL.out, HRn⟩
          · obtain ⟨gg, e0, hc⟩ : ∃ gg, a3 = some ⟨gg, 0, none⟩ ∧ Vz.cell? ⟨gg, D.length - 1, none⟩ = some (.int .i64 (D.getLast?.getD default)) := by
              rcases owni_cases HOn.out with ⟨_, e⟩ | ⟨g, c, e, _⟩
              · exact absurd e hD0
              · have h := HOn.out
                rw [e] at h
                simp only [Value.slice.injEq] at e
                have hpos : 0 < D.length := List.length_pos_iff.2 hD0
                have h3 := owni_el h (D.length - 1) (by omega)
                rw [← List.getLast?_eq_getElem?] at h3
                exact ⟨g, e.1, h3⟩
            subst e0
            have hgl := World.block_lt_of_cell? _ _ hc
            have hpos : 0 < D.length := List.length_pos_iff.2 hD0
            have t2 : ((D.length : Int) == 0) = false := by simp; omega
            have t2b : ¬ (D.length : Int) = 0 := by omega
            have t3 : 0 ≤ (D.length : Int) - 1 := by omega
            have t4 : (D.length : Int) - 1 < (D.length : Int) := by omega
            have t5 : (D.length : Int) - 1 = ((D.length - 1 : Nat) : Int) := by omega
            have HD0 := hid hD0
            clear hD0 HDe
            generalize D.getLast?.getD default = z at *
            by_cases hz : z = y
            · rw [if_neg (by rintro (h | h); exact HD0.out h; exact h hz)] at HDd
              have u1 : (z != y) = false := by simpa using hz
              have u2 : (z == y) = true := by simpa using hz
              obtain ⟨q0, q1, q2⟩ := at_now HAn.out hkn
              rw [HDk.out] at q0
              have HO5 : Hid (Vz.ownsRow (w.heap.size + 1) 3 1 (.slice (some ⟨gg, 0, none⟩) D.length c3) (I.ded (done ++ [y])).length (I.iv (I.ded (done ++ [y])))) := by
                show Vz.ownsRow _ _ _ _ _ _
                rw [HDd.out]
                exact HOn.out
              have HRn := hid (HNx.out Vz _ HO5.out HAn.out HFn.out)
              clear HO5 HNx HAn HOn HFn
              go_wp2_with fail
              go_roundg (tot (FJ ls (upd d k)))
              case measure => have := HM2.out; omega
              case rel => exact ⟨done ++ [y], upd d k, Nat.le_refl _, HL.out, HRn⟩
            · rw [if_pos (Or.inr hz)] at HDd
              have u1 : (z != y) = true := by simpa using hz
              have u2 : (z == y) = false := by simpa using hz
              go_wp2_with (at_builtin; go_must (refine wpl_eb (base := w.heap.size + 1) rfl (.tmp 81) (.tmp 83) rfl _ D rfl Vz.heap.size y rfl ?c1 ?c2 ?c3 ?c4 ?_))
              case c1 => omega
              case c2 => exact own_fr HOn.out (alloc_fr _ _ _) (fun _ _ h => h)
              case c3 => first | omega | (simp; omega)
              try (case c4 => exact cell_of_one (heap_last Vz (.cells #[.int .i64 y] 3) _ rfl))
              intro v2 w4 hO hg4
              have HO4 := hid hO
              have HA4 := hid (own_beside (own_fr HAn.out (alloc_fr Vz (.cells #[.int .i64 y] 3) (fun _ => False)) (fun _ _ h => h)) (own_fr HOn.out (alloc_fr Vz (.cells #[.int .i64 y] 3) (fun _ => False)) (fun _ _ h => h)) hg4)
              have HF4 := hid ((HFn.out.alloc (.cells #[.int .i64 y] 3)).grown hg4 (fun j hj e => by have := ((own_fr HOn.out (alloc_fr Vz (.cells #[.int .i64 y] 3) (fun _ => False)) (fun _ _ h => h)).lt j e).1; omega))
              clear hO hg4
              obtain ⟨q0, q1, q2⟩ := at_now HA4.out hkn
              rw [HDk.out] at q0
              have HO5 : Hid (w4.ownsRow (w.heap.size + 1) 3 1 v2 (I.ded (done ++ [y])).length (I.iv (I.ded (done ++ [y])))) := by
                show w4.ownsRow _ _ _ _ _ _
                rw [HDd.out]
                first
                | exact HO4.out
                | (rw [List.length_append]; exact HO4.out)
              have HRn := hid (HNx.out w4 v2 HO5.out HA4.out HF4.out)
              clear HO4 HO5 HA4 HF4 HNx
              go_wp2_with fail
              go_roundg (tot (FJ ls (upd d k)))
              case measure => have := HM2.out; omega
              case rel => exact ⟨done ++ [y], upd d k, Nat.le_refl _, HL.out, HRn⟩
      | succ g2 =>
        have hin : i < ls.length := by omega
        have t0 : (0 : Int) ≤ (i : Int) := by omega
        have t1 : (i : Int) < (ls.length : Int) := by omega
        have HI := hid hi
        have HFV := HF
        obtain ⟨G, off, e1, a, cc, hc, hle, hel⟩ := HH.out i hin
        subst e1
        have hc1 := ci_fr hc HR1.out.fr
        have ha1 := HR1.out.at hin
        have hGl := World.block_lt_of_cell? _ _ hc1
        have hBl := World.block_lt_of_cell? _ _ ha1
        have hdi := HR1.out.hd i hin
        by_cases hem : d i = (I.gl ls i).length
        · have HB2 := hid (HBs.out.skip (by rw [FJ_rst hin]; exact List.drop_eq_nil_of_le (by omega)))
          have s1 : decide (((d i : Nat) : Int) < ((I.gl ls i).length : Int)) = false := decide_eq_false (by omega)
          have s2 : decide (d i < (I.gl ls i).length) = false := decide_eq_false (by omega)
          have s3 : ¬ ((d i : Nat) : Int) < ((I.gl ls i).length : Int) := by omega
          clear hel hi hem hc
          generalize (I.gl ls i).length = m at *
          generalize d i = di at *
          generalize hkk : kI ko = kk at *
          go_wp2_with fail
          go_quiet (fail)
          go_wp2_with fail
          go_roundg g2
          case measure => omega
          case rel => exact ⟨i + 1, ko, by rw [hkk], by go_num, by have := HI.out; omega, HB2, HFV.out.trans (by repeat (first | with_reducible exact Fr.refl _ _ | with_reducible apply Fr.drew | with_reducible apply Fr.drewN))⟩
        · have hlt : d i < (I.gl ls i).length := by omega
          obtain ⟨b, o, e2, hE⟩ := hel (d i) hlt
          subst e2
          have hx1 := ci_fr hE HR1.out.fr
          have hxl := World.block_lt_of_cell? _ _ hx1
          have hne : (rst (FJ ls d) i).l ≠ [] := by
            rw [FJ_rst hin]
            intro e
            have := congrArg List.length e
            rw [List.length_drop] at this
            simp at this
            omega
          have s1 : ((d i : Nat) : Int) < ((I.gl ls i).length : Int) := by omega
          have s0 : (0 : Int) ≤ ((d i : Nat) : Int) := by omega
          cases ko with
          | none =>
            have HB2 := hid (HBs.out.first I.cmE_cm hne)
            unfold kI
            clear hel hi hem hc hE hne hx1 hxl
            generalize (I.gl ls i).length = m at *
            generalize d i = di at *
            go_wp2_with fail
            go_quiet (fail)
            go_wp2_with fail
            go_roundg g2
            case measure => omega
            case rel => exact ⟨i + 1, some i, rfl, by go_num, by have := HI.out; omega, HB2, HFV.out.trans (by repeat (first | with_reducible exact Fr.refl _ _ | with_reducible apply Fr.drew | with_reducible apply Fr.drewN))⟩
          | some k =>
            have hki : k < i := HBs.out.1
            have hkn : k < ls.length := by omega
            have hnk := HBs.out.2.1
            obtain ⟨G', off', e3, a', cc', hc', hle', hel'⟩ := HH.out k hkn
            obtain ⟨rfl, rfl⟩ : G = G' ∧ off = off' := by simpa using e3
            have hdk := HR1.out.hd k hkn
            have hltk : d k < (I.gl ls k).length := by
              rw [FJ_rst hkn] at hnk
              rcases Nat.lt_or_ge (d k) (I.gl ls k).length with h | h
              · exact h
              · exact absurd (List.drop_eq_nil_of_le h) hnk
            obtain ⟨b', o', e4, hE'⟩ := hel' (d k) hltk
            subst e4
            have hc1' := ci_fr hc' HR1.out.fr
            have ha1' := HR1.out.at hkn
            have hy1 := ci_fr hE' HR1.out.fr
            have hyl := World.block_lt_of_cell? _ _ hy1
            have HBe := hid (fun h => HBs.out.better I.cmE_cm hne h)
            have HSt := hid (fun h => HBs.out.stay h)
            rw [FJ_hd hin, FJ_hd hkn] at HBe HSt
            unfold I.cmE at HBe HSt
            have s2 : ((d k : Nat) : Int) < ((I.gl ls k).length : Int) := by omega
            have s3 : (0 : Int) ≤ ((d k : Nat) : Int) := by omega
            have s4 : (0 : Int) ≤ (k : Int) := by omega
            have s5' : (k : Int) < (ls.length : Int) := by omega
            have s6 : ¬ (k : Int) < 0 := by omega
            have s7 : decide ((k : Int) < 0) = false := decide_eq_false s6
            have s8 : decide (((d i : Nat) : Int) < ((I.gl ls i).length : Int)) = true := decide_eq_true s1
            unfold kI
            clear hel hi hem hc hE hne hel' hE' hc' e3 hnk hdk hdi
            generalize (I.gl ls i)[d i]?.getD default = x at *
            generalize (I.gl ls k)[d k]?.getD default = y at *
            generalize (I.gl ls i).length = m at *
            generalize (I.gl ls k).length = mk at *
            generalize d i = di at *
            generalize d k = dk at *
            by_cases hd : x < y
            · have HB2 := hid (HBe.out (cmpI_lt.2 hd))
              have hd2 : decide (x < y) = true := decide_eq_true hd
              clear HBe HSt
              go_wp2_with fail
              go_quiet (fail)
              go_wp2_with fail
              go_roundg g2
              case measure => omega
              case rel => exact ⟨i + 1, some i, rfl, by go_num, by have := HI.out; omega, HB2, HFV.out.trans (by repeat (first | with_reducible exact Fr.refl _ _ | with_reducible apply Fr.drew | with_reducible apply Fr.drewN))⟩
            · have HB2 := hid (HSt.out (fun h => hd (cmpI_lt.1 h)))
              have hd2 : decide (x < y) = false := decide_eq_false hd
              clear HBe HSt
              go_wp2_with fail
              go_quiet (fail)
              go_wp2_with fail
              go_roundg g2
              case measure => omega
              case rel => exact ⟨i + 1, some k, rfl, by go_num, by have := HI.out; omega, HB2, HFV.out.trans (by repeat (first | with_reducible exact Fr.refl _ _ | with_reducible apply Fr.drew | with_reducible apply Fr.drewN))⟩
end Go.Proofs.Ytilgkfpicdmkkaa.M
