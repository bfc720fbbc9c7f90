/- The document's Rows: a walk. -/
import Derived.Test.YtilgkfpicdmkkaaMRRows0
import Derived.Test.YtilgkfpicdmkkaaMOwn0
import Derived.Deep.OwnRows
import Derived.Deep.AppendLies
import Derived.Deep.RegionLaw
namespace Go.Proofs.Ytilgkfpicdmkkaa.M
open Go.RowKit

structure RW (w wx : World) (n : Nat) (ls : List (List Rw)) (d : Nat → Nat) (done : List Rw) (s5 : Value) : Prop where
  own : wx.ownsRow w.heap.size 3 1 (.slice (some ⟨w.heap.size, 0, none⟩) n n) n (I.iv (dI n d))
  out : M.W.Ro7 w wx s5 done
  hd : ∀ p, p < n → d p ≤ (M.W.gl ls p).length
  eq : merged M.W.cmE ls = done ++ merged M.W.cmE (FD ls d)
theorem RW.fr {w wx wy : World} {n : Nat} {ls : List (List Rw)} {d : Nat → Nat} {done : List Rw} {s5 : Value} (h : RW w wx n ls d done s5) (hf : Fr wx wy (fun _ => False)) : RW w wy n ls d done s5 := ⟨own_fr h.own hf (fun _ _ h => h), h.out.fr hf, h.hd, h.eq⟩
theorem RW.at {w wx : World} {n : Nat} {ls : List (List Rw)} {d : Nat → Nat} {done : List Rw} {s5 : Value} (h : RW w wx n ls d done s5) {p : Nat} (hp : p < n) : wx.cell? ⟨w.heap.size, p, none⟩ = some (.int .i64 ((d p : Nat) : Int)) := by
  have h1 := h.own
  have e := owni_el (L := dI n d) (by rw [dI_len]; exact h1) p (by rw [dI_len]; exact hp)
  rw [dI_get hp] at e
  exact e
def kI : Option Nat → Int
  | none => -1
  | some k => (k : Int)
theorem made_own (w : World) (n : Nat) (hn : n ≤ 900000) : (w.alloc (.cells (madeCells #[Value.int .i64 0] n) 3)).ownsRow w.heap.size 3 1 (.slice (some ⟨w.heap.size, 0, none⟩) n n) n (I.iv (dI n (fun _ => 0))) := by
  rw [made_rowi]
  have := World.ownsRow_lit (size := 1) (e := 3) w (I.iv (dI n (fun _ => 0))).toArray n (Nat.le_refl _) (by unfold maxLen; omega) (by simp [I.iv, dI])
  simpa [I.iv, dI] using this

theorem step_r7 {V wb : World} {ops : Array Oper} {o : Oper} {a : Act} {K : Act → World → Prop} {Q : Exit → Act → World → Prop} {E : Prop} (hgd : o.guard = none) (sl x : Operand)
    (ho : o.op = .call { callee := .builtin .append, args := #[sl, x], argTypes := #[22, 22] }) (v : Value) (l : List Rw) (hs : a.eval sl = v) (y : Rw) (hx : a.eval x = .slice (some ⟨V.heap.size, 0, none⟩) 1 1) (hn : l.length ≤ 1000000000) (hb : M.W.Ro7 wb V v l)
    (h : ∀ v' w', M.W.Ro7 wb w' v' (l ++ [y]) → (V.alloc (.cells #[.int .i64 y.c.v, .string y.c.k, .int .i64 y.c.s, .int .i64 y.n, .int .i64 y.s, .int .i64 y.m, .int .i64 y.x] 54)).drew.grownBy w' v.ownBlock → K (a.put o.dst v') w') : if Region.wanted o (yielded ops a.tmps) = true then Oper.wp Try.prog o a (V.alloc (.cells #[.int .i64 y.c.v, .string y.c.k, .int .i64 y.c.s, .int .i64 y.n, .int .i64 y.s, .int .i64 y.m, .int .i64 y.x] 54)).drew K Q else E := by
  obtain ⟨i0, hi, hz0, hz1, hz2⟩ := M.W.infoP M.W.Try.info_r7
  have hb2 := M.W.Ro7.fr hb ((alloc_fr V (.cells #[.int .i64 y.c.v, .string y.c.k, .int .i64 y.c.s, .int .i64 y.n, .int .i64 y.s, .int .i64 y.m, .int .i64 y.x] 54) (fun _ => False)).drew)
  refine step_append_lies (w := (V.alloc (.cells #[.int .i64 y.c.v, .string y.c.k, .int .i64 y.c.s, .int .i64 y.n, .int .i64 y.s, .int .i64 y.m, .int .i64 y.x] 54)).drew) hgd sl x 22 ho wb.heap.size 54 i0 _ 7 64 Try.underlying22 hi hz0 hz1 hz2 rfl (by decide) v l.length (rc l) hs hb2.1 ⟨V.heap.size, 0, none⟩ 1 1 [.int .i64 y.c.v, .string y.c.k, .int .i64 y.c.s, .int .i64 y.n, .int .i64 y.s, .int .i64 y.m, .int .i64 y.x] hx rfl (M.W.r7_new V _ _ _ _ _ _ _ _) (by intro u hu; simp at hu; rcases hu with rfl | rfl | rfl | rfl | rfl | rfl | rfl <;> rfl) (by decide) (by unfold maxLen; omega) (by omega) hb2.2.size _ rfl ?_
  intro g cap w' hown hgr _ _
  refine h _ w' ⟨?_, hb2.2.grown hgr (fun k hk e => by have := hb2.1.lt k e; omega)⟩ hgr
  rw [rc_append, List.length_append]
  exact hown
theorem Try.info_int : (Try.prog.info? 3).map (fun i => (i.zero, i.size, i.bytes)) = some (some (.int .i64 0), 1, 8) := by kernel_rfl
set_option maxHeartbeats 8000000 in
set_option maxRecDepth 100000 in
theorem rrows_any {sv : Nat → M.W.Sv} {ls : List (List Rw)} {lv : Value} (most : Int) (w : World) (h : M.W.LsAt w sv ls lv) (ht : tot ls ≤ 1000000) :
    Calls Try.prog 12 #[.int .i64 most, lv] w fun e w' => ∃ v, e = .returned v ∧ M.W.Ro7 w w' v ((merged M.W.cmE ls).take most.toNat) := by
  obtain ⟨ao, cap, rfl, hn9⟩ : ∃ ao cap, lv = .slice ao ls.length cap ∧ ls.length ≤ 900000 := by
    obtain ⟨ao, cap, e, hn, _⟩ := h
    exact ⟨ao, cap, e, hn⟩
  have HH := hid (fun p (hp : p < ls.length) => ls_hdr h hp)
  clear h
  have HM0 := hid (made_own w ls.length hn9)
  have HZ := hid (FD_zero ls)
  have hmk := run_make_row' (P := Try.prog) 36 3 (.int .i64 0) 8 Try.underlying36 Try.info_int rfl .i64 .i64 ls.length (by omega) (by omega) w
  go_enter Try.func12, Try.ntmps12
  go_wp2_with fail
  go_loopg [5] (tot ls) (fun g s5 wx => ∃ (done : List Rw) (d : Nat → Nat), tot (FD ls d) ≤ g ∧ done.length + tot (FD ls d) = tot ls ∧ done.length ≤ most.toNat ∧ Hid (RW w wx ls.length ls d done s5))
  case atStart => exact ⟨[], fun _ => 0, by rw [HZ.out]; omega, by rw [HZ.out]; simp, by simp, HM0.out, ⟨⟨rfl, Or.inl ⟨rfl, rfl⟩⟩, alloc_fr w _ _⟩, fun _ _ => Nat.zero_le _, by rw [HZ.out]; simp⟩
  case round =>
    obtain ⟨done, d, hg, hdl, hdm, HR⟩ := hrel
    obtain ⟨a5, c5, e5⟩ := M.W.Ro7.shape HR.out.out
    subst e5
    clear HM0 HZ
    by_cases hm : (done.length : Int) < most
    · generalize wr = V at *
      go_wp2_with fail
      go_loopg [7, 8] ls.length (fun g s7 s8 wx => ∃ (i : Nat) (ko : Option Nat), s7 = .int .i64 (kI ko) ∧ s8 = .int .i64 (i : Int) ∧ i + g = ls.length ∧ Hid (Bst M.W.cmE (FD ls d) i ko) ∧ Hid (Fr V wx (fun _ => False)))
      case atStart => exact ⟨0, none, rfl, rfl, by omega, Bst.zero _, Fr.refl _ _⟩
      case round =>
        obtain ⟨i, ko, rfl, rfl, hi, HBs, HF⟩ := hrel
        generalize wr = V1 at *
        have HR1 := hid (HR.out.fr HF.out)
        cases gk with
        | zero =>
          have t1 : ¬ (i : Int) < (ls.length : Int) := by omega
          have hin : i = ls.length := by omega
          cases ko with
          | none =>
            have HM : Hid ((merged M.W.cmE ls).take most.toNat = done) := by
              have h1 := HBs.out
              rw [hin, ← FD_len ls d] at h1
              show (merged M.W.cmE ls).take most.toNat = done
              rw [HR.out.eq, Bst.done M.W.cmE_cm h1, List.append_nil, List.take_of_length_le hdm]
            unfold kI
            clear hin hi
            go_wp2_with fail
            go_ret
            refine ⟨_, rfl, ?_⟩
            rw [HM.out]
            exact HR1.out.out
          | some k =>
            have h1 := HBs.out
            rw [hin, ← FD_len ls d] at h1
            have hkn : k < ls.length := by have := h1.1; rw [FD_len] at this; exact this
            have hnk := h1.2.1
            obtain ⟨hM1, hM2⟩ := h1.take M.W.cmE_cm
            rw [FD_set hkn, FD_hd hkn] at hM1
            rw [FD_set hkn] at hM2
            obtain ⟨G, off, e1, a, cc, hc, hle, hel⟩ := HH.out k hkn
            subst e1
            have hltk : d k < (M.W.gl ls k).length := by
              rw [FD_rst hkn] at hnk
              rcases Nat.lt_or_ge (d k) (M.W.gl ls k).length with h | h
              · exact h
              · exact absurd (List.drop_eq_nil_of_le h) hnk
            obtain ⟨b, o, e2, hE⟩ := hel (d k) hltk
            subst e2
            have HEy := hid (hE.fr HR1.out.out.2)
            have hc1 := ci_fr hc HR1.out.out.2
            have ha1 := HR1.out.at hkn
            have s1 : ((d k : Nat) : Int) < ((M.W.gl ls k).length : Int) := by omega
            have s0 : (0 : Int) ≤ ((d k : Nat) : Int) := by omega
            have s4 : (0 : Int) ≤ (k : Int) := by omega
            have s5' : (k : Int) < (ls.length : Int) := by omega
            have s6 : ¬ (k : Int) < 0 := by omega
            have HEq : Hid (merged M.W.cmE ls = (done ++ [(M.W.gl ls k)[d k]?.getD default]) ++ merged M.W.cmE (FD ls (upd d k))) := by
              show _ = _
              rw [HR1.out.eq, hM1]
              simp
            have HDu : Hid (∀ p, p < ls.length → upd d k p ≤ (M.W.gl ls p).length) := fun p hp => by
              unfold upd
              split
              · rename_i e; rw [e]; omega
              · exact HR1.out.hd p hp
            have HAt := hid HR1.out.own
            have HOu := hid HR1.out.out
            have HDi := hid (dI_upd (n := ls.length) (d := d) (k := k))
            unfold kI
            clear hel hc hE hnk h1 hM1 hin hi
            generalize (M.W.gl ls k)[d k]?.getD default = y at *
            generalize (M.W.gl ls k).length = m at *
            generalize hdk : d k = dk at *
            have HC0 := hid (fun (W' : World) (hf : Fr V1 W' (fun _ => False)) => (show W'.cell? ⟨w.heap.size, k, none⟩ = some (.int .i64 (dk : Int)) ∧ W'.cell? ⟨G, off + k, none⟩ = some (.slice (some ⟨b, o, none⟩) m cc) ∧ W'.cell? ⟨b, o + dk * 7, none⟩ = some (.int .i64 y.c.v) ∧ W'.cell? ⟨b, o + dk * 7 + 1, none⟩ = some (.string y.c.k) ∧ W'.cell? ⟨b, o + dk * 7 + 2, none⟩ = some (.int .i64 y.c.s) ∧ W'.cell? ⟨b, o + dk * 7 + 3, none⟩ = some (.int .i64 y.n) ∧ W'.cell? ⟨b, o + dk * 7 + 4, none⟩ = some (.int .i64 y.s) ∧ W'.cell? ⟨b, o + dk * 7 + 5, none⟩ = some (.int .i64 y.m) ∧ W'.cell? ⟨b, o + dk * 7 + 6, none⟩ = some (.int .i64 y.x) ∧ w.heap.size < W'.heap.size ∧ G < W'.heap.size ∧ b < W'.heap.size from by
              obtain ⟨y0, y1, y2, y3, y4, y5, y6⟩ := HEy.out.fr hf
              have z0 := ci_fr ha1 hf
              have z2 := ci_fr hc1 hf
              exact ⟨z0, z2, y0, y1, y2, y3, y4, y5, y6, World.block_lt_of_cell? _ _ z0, World.block_lt_of_cell? _ _ z2, World.block_lt_of_cell? _ _ y0⟩))
            have HF1 := hid (Fr.refl V1 (fun _ => False))
            go_wp2_with fail
            go_cut [5] (fun s5 wx => Hid (M.W.Ro7 w wx s5 (done ++ [y]) ∧ wx.ownsRow w.heap.size 3 1 (.slice (some ⟨w.heap.size, 0, none⟩) ls.length ls.length) ls.length (I.iv (dI ls.length d))))
            case first =>
              obtain ⟨i0, hi0, hz0, hz1, hz2⟩ := M.W.infoP M.W.Try.info_r7
              obtain ⟨z0, z1, y0, y1, y2, y3, y4, y5, y6, l0, l1, l2⟩ := HC0.out V1 HF1.out
              have hwV : w.heap.size ≤ V1.heap.size := HOu.out.2.size
              go_region_law (refine step_r7 (wb := w) rfl (.tmp 65) (.tmp 76) rfl _ done (by first | rfl | simp [Act.eval, Act.put]) y (by first | rfl | simp [Act.eval, Act.put]) (by omega) HOu.out ?_; intro v7 w7 hR hgr; have HR7 := hid (And.intro hR hgr); clear hR hgr)
              all_goals (
                go_wp2_with fail
                go_meet
                exact ⟨HR7.out.1, own_kpc (own_fr HAt.out ((alloc_fr V1 (.cells #[.int .i64 y.c.v, .string y.c.k, .int .i64 y.c.s, .int .i64 y.n, .int .i64 y.s, .int .i64 y.m, .int .i64 y.x] 54) (fun _ => False)).drew) (fun _ _ h => h)) (KpC.grown (M.W.Ro7.fr HOu.out ((alloc_fr V1 (.cells #[.int .i64 y.c.v, .string y.c.k, .int .i64 y.c.s, .int .i64 y.n, .int .i64 y.s, .int .i64 y.m, .int .i64 y.x] 54) (fun _ => False)).drew)).1 HR7.out.2) (by decide)⟩)
            case rest =>
              have HX := hcut
              have hk2 := own_freeN HX.out.2
              have hat2 : wc.cell? ⟨w.heap.size, k, none⟩ = some (.int .i64 (dk : Int)) := by
                have h1 := HX.out.2
                have e := owni_el (L := dI ls.length d) (by rw [dI_len]; exact h1) k (by rw [dI_len]; exact hkn)
                rw [dI_get hkn, hdk] at e
                exact e
              obtain ⟨hfz, hwl⟩ := hk2
              have HRn : Hid (RW w (wc.setCell ⟨w.heap.size, k, none⟩ (.int .i64 ((dk : Int) + 1))) ls.length ls (upd d k) (done ++ [y]) u5) := by
                have f1 : Fr wc (wc.setCell ⟨w.heap.size, k, none⟩ (.int .i64 ((dk : Int) + 1))) (fun b => b = w.heap.size) := Fr.setCell (S := fun b => b = w.heap.size) (Fr.refl wc (fun b => b = w.heap.size)) (p := ⟨w.heap.size, k, none⟩) (fun _ => rfl) _
                refine ⟨?_, ⟨own_fr HX.out.1.1 f1 (fun b e h => M.W.own_unlike HX.out.1.1 HX.out.2 (by decide) b e (by rw [h]; rfl)), HX.out.1.2.setCell (p := ⟨w.heap.size, k, none⟩) (fun h => absurd h (Nat.lt_irrefl _)) _⟩, HDu.out, HEq.out⟩
                have h1 := own_setN HX.out.2 (g := w.heap.size) rfl k (.int .i64 ((dk : Int) + 1))
                have h2 : (I.iv (dI ls.length d)).set k (.int .i64 ((dk : Int) + 1)) = I.iv (dI ls.length (upd d k)) := by
                  rw [← HDi.out]
                  unfold I.iv
                  rw [List.map_set]
                rw [h2] at h1
                exact h1
              have HL := hid (show (done ++ [y]).length + tot (FD ls (upd d k)) = tot ls by rw [List.length_append, List.length_singleton]; omega)
              have HL2 := hid (show (done ++ [y]).length ≤ most.toNat by rw [List.length_append, List.length_singleton]; omega)
              go_wp2_with fail
              go_roundg (tot (FD ls (upd d k)))
              case measure => omega
              case rel => exact ⟨done ++ [y], upd d k, Nat.le_refl _, HL.out, HL2.out, HRn⟩
        | succ g2 =>
          have hin : i < ls.length := by omega
          have t0 : (0 : Int) ≤ (i : Int) := by omega
          have t1 : (i : Int) < (ls.length : Int) := by omega
          have HI := hid hi
          have HFV := HF
          obtain ⟨G, off, e1, a, cc, hc, hle, hel⟩ := HH.out i hin
          subst e1
          have hc1 := ci_fr hc HR1.out.out.2
          have ha1 := HR1.out.at hin
          have hGl := World.block_lt_of_cell? _ _ hc1
          have hBl := World.block_lt_of_cell? _ _ ha1
          have hdi := HR1.out.hd i hin
          by_cases hem : d i = (M.W.gl ls i).length
          · have HB2 := hid (HBs.out.skip (by rw [FD_rst hin]; exact List.drop_eq_nil_of_le (by omega)))
            have s1 : decide (((d i : Nat) : Int) < ((M.W.gl ls i).length : Int)) = false := decide_eq_false (by omega)
            have s2 : decide (d i < (M.W.gl ls i).length) = false := decide_eq_false (by omega)
            have s3 : ¬ ((d i : Nat) : Int) < ((M.W.gl ls i).length : Int) := by omega
            clear hel hi hem hc
            generalize (M.W.gl ls i).length = m at *
            generalize d i = di at *
            generalize hkk : kI ko = kk at *
            go_wp2_with fail
            go_quiet (fail)
            go_wp2_with fail
            go_roundg g2
            case measure => omega
            case rel => exact ⟨i + 1, ko, by rw [hkk], by go_num, by have := HI.out; omega, HB2, HFV.out.trans (by repeat (first | with_reducible exact Fr.refl _ _ | with_reducible apply Fr.drew | with_reducible apply Fr.drewN))⟩
          · have hlt : d i < (M.W.gl ls i).length := by omega
            obtain ⟨b, o, e2, hE⟩ := hel (d i) hlt
            subst e2
            have HEx := hid (hE.fr HR1.out.out.2)
            have hne : (rst (FD ls d) i).l ≠ [] := by
              rw [FD_rst hin]
              intro e
              have := congrArg List.length e
              rw [List.length_drop] at this
              simp at this
              omega
            have s1 : ((d i : Nat) : Int) < ((M.W.gl ls i).length : Int) := by omega
            have s0 : (0 : Int) ≤ ((d i : Nat) : Int) := by omega
            cases ko with
            | none =>
              have HB2 := hid (HBs.out.first M.W.cmE_cm hne)
              unfold kI
              clear hel hi hem hc hE hne
              generalize (M.W.gl ls i).length = m at *
              generalize d i = di at *
              go_wp2_with fail
              go_quiet (fail)
              go_wp2_with fail
              go_roundg g2
              case measure => omega
              case rel => exact ⟨i + 1, some i, rfl, by go_num, by have := HI.out; omega, HB2, HFV.out.trans (by repeat (first | with_reducible exact Fr.refl _ _ | with_reducible apply Fr.drew | with_reducible apply Fr.drewN))⟩
            | some k =>
              have hki : k < i := HBs.out.1
              have hkn : k < ls.length := by omega
              have hnk := HBs.out.2.1
              obtain ⟨G', off', e3, a', cc', hc', hle', hel'⟩ := HH.out k hkn
              obtain ⟨rfl, rfl⟩ : G = G' ∧ off = off' := by simpa using e3
              have hdk := HR1.out.hd k hkn
              have hltk : d k < (M.W.gl ls k).length := by
                rw [FD_rst hkn] at hnk
                rcases Nat.lt_or_ge (d k) (M.W.gl ls k).length with h | h
                · exact h
                · exact absurd (List.drop_eq_nil_of_le h) hnk
              obtain ⟨b', o', e4, hE'⟩ := hel' (d k) hltk
              subst e4
              have hc1' := ci_fr hc' HR1.out.out.2
              have ha1' := HR1.out.at hkn
              have HEy := hid (hE'.fr HR1.out.out.2)
              have HBe := hid (fun h => HBs.out.better M.W.cmE_cm hne h)
              have HSt := hid (fun h => HBs.out.stay h)
              rw [FD_hd hin, FD_hd hkn] at HBe HSt
              unfold M.W.cmE at HBe HSt
              have s2 : ((d k : Nat) : Int) < ((M.W.gl ls k).length : Int) := by omega
              have s3 : (0 : Int) ≤ ((d k : Nat) : Int) := by omega
              have s4 : (0 : Int) ≤ (k : Int) := by omega
              have s5' : (k : Int) < (ls.length : Int) := by omega
              have s6 : ¬ (k : Int) < 0 := by omega
              have s7 : decide ((k : Int) < 0) = false := decide_eq_false s6
              unfold kI
              clear hel hi hem hc hE hne hel' hE' hc' e3 hnk hdk hdi
              generalize (M.W.gl ls i)[d i]?.getD default = x at *
              generalize (M.W.gl ls k)[d k]?.getD default = y at *
              generalize (M.W.gl ls i).length = m at *
              generalize (M.W.gl ls k).length = mk at *
              have HAI := hid (fun (W' : World) (hf : Fr V1 W' (fun _ => False)) => (And.intro (ci_fr ha1 hf) (And.intro (ci_fr ha1' hf) (And.intro (ci_fr hc1 hf) (ci_fr hc1' hf)))))
              generalize d i = di at *
              generalize d k = dk at *
              have HC := hid (fun U => rcompare_any x.c y.c U)
              unfold vC at HC
              generalize cmpC x.c y.c = dd at *
              have HC0 := hid (fun (W' : World) (hf : Fr V1 W' (fun _ => False)) => (show W'.cell? ⟨w.heap.size, i, none⟩ = some (.int .i64 (di : Int)) ∧ W'.cell? ⟨w.heap.size, k, none⟩ = some (.int .i64 (dk : Int)) ∧ W'.cell? ⟨G, off + i, none⟩ = some (.slice (some ⟨b, o, none⟩) m cc) ∧ W'.cell? ⟨G, off + k, none⟩ = some (.slice (some ⟨b', o', none⟩) mk cc') ∧ W'.cell? ⟨b, o + di * 7, none⟩ = some (.int .i64 x.c.v) ∧ W'.cell? ⟨b, o + di * 7 + 1, none⟩ = some (.string x.c.k) ∧ W'.cell? ⟨b, o + di * 7 + 2, none⟩ = some (.int .i64 x.c.s) ∧ W'.cell? ⟨b', o' + dk * 7, none⟩ = some (.int .i64 y.c.v) ∧ W'.cell? ⟨b', o' + dk * 7 + 1, none⟩ = some (.string y.c.k) ∧ W'.cell? ⟨b', o' + dk * 7 + 2, none⟩ = some (.int .i64 y.c.s) ∧ w.heap.size < W'.heap.size ∧ G < W'.heap.size ∧ b < W'.heap.size ∧ b' < W'.heap.size from by
                obtain ⟨x0, x1, x2, _⟩ := HEx.out.fr hf
                obtain ⟨y0, y1, y2, _⟩ := HEy.out.fr hf
                obtain ⟨z0, z1, z2, z3⟩ := HAI.out W' hf
                exact ⟨z0, z1, z2, z3, x0, x1, x2, y0, y1, y2, World.block_lt_of_cell? _ _ z0, World.block_lt_of_cell? _ _ z2, World.block_lt_of_cell? _ _ x0, World.block_lt_of_cell? _ _ y0⟩))
              have HF1 := hid (Fr.refl V1 (fun _ => False))
              clear ha1 ha1' hc1 hc1' hGl hBl
              go_wp2_with fail
              go_cut [61] (fun s61 wx => s61 = .bool (decide (dd < 0)) ∧ Hid (Fr V1 wx (fun _ => False)))
              case first =>
                go_region_held3 (fun W' => Hid (Fr V1 W' (fun _ => False)) ∧ W'.cell? ⟨w.heap.size, i, none⟩ = some (.int .i64 (di : Int)) ∧ W'.cell? ⟨w.heap.size, k, none⟩ = some (.int .i64 (dk : Int)) ∧ W'.cell? ⟨G, off + i, none⟩ = some (.slice (some ⟨b, o, none⟩) m cc) ∧ W'.cell? ⟨G, off + k, none⟩ = some (.slice (some ⟨b', o', none⟩) mk cc') ∧ W'.cell? ⟨b, o + di * 7, none⟩ = some (.int .i64 x.c.v) ∧ W'.cell? ⟨b, o + di * 7 + 1, none⟩ = some (.string x.c.k) ∧ W'.cell? ⟨b, o + di * 7 + 2, none⟩ = some (.int .i64 x.c.s) ∧ W'.cell? ⟨b', o' + dk * 7, none⟩ = some (.int .i64 y.c.v) ∧ W'.cell? ⟨b', o' + dk * 7 + 1, none⟩ = some (.string y.c.k) ∧ W'.cell? ⟨b', o' + dk * 7 + 2, none⟩ = some (.int .i64 y.c.s) ∧ w.heap.size < W'.heap.size ∧ G < W'.heap.size ∧ b < W'.heap.size ∧ b' < W'.heap.size)
                  ((refine (fun h => ⟨h, HC0.out _ h⟩ : Fr V1 _ (fun _ => False) → _) ?_; repeat (first | with_reducible exact HF1.out | with_reducible exact Fr.refl _ _ | with_reducible apply Fr.drew | with_reducible apply Fr.alloc)))
                  (first
                  | (go_at_call 24; with_reducible refine (HC.out _).mono ?_; rintro e w1 ⟨rfl, hf⟩; have HF1 := hid (Fr.trans (a := V1) (by repeat (first | with_reducible exact HF1.out | with_reducible exact Fr.refl _ _ | with_reducible apply Fr.drew | with_reducible apply Fr.alloc)) hf); clear hf)
                  | fail)
                all_goals (
                  go_wp2_with fail
                  go_meet
                  refine ⟨by simp, (?_ : Fr V1 _ (fun _ => False))⟩
                  repeat (first | with_reducible exact HF1.out | with_reducible exact Fr.refl _ _ | with_reducible apply Fr.drew | with_reducible apply Fr.alloc))
              case rest =>
                obtain ⟨rfl, HF2⟩ := hcut
                by_cases hd : dd < 0
                · have HB2 := hid (HBe.out hd)
                  go_wp2_with fail
                  go_roundg g2
                  case measure => omega
                  case rel => exact ⟨i + 1, some i, rfl, by go_num, by have := HI.out; omega, HB2, HFV.out.trans HF2.out⟩
                · have HB2 := hid (HSt.out (by first | exact hd | omega))
                  go_wp2_with fail
                  go_roundg g2
                  case measure => omega
                  case rel => exact ⟨i + 1, some k, rfl, by go_num, by have := HI.out; omega, HB2, HFV.out.trans HF2.out⟩
    · have HM : Hid ((merged M.W.cmE ls).take most.toNat = done) := by
        show (merged M.W.cmE ls).take most.toNat = done
        have e0 : most.toNat = done.length := by omega
        rw [HR.out.eq, e0, List.take_left' rfl]
      go_wp2_with fail
      go_ret
      refine ⟨_, rfl, ?_⟩
      rw [HM.out]
      exact HR.out.out
end Go.Proofs.Ytilgkfpicdmkkaa.M
