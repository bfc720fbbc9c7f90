/- mark.check, windows: walks. -/
import Derived.Test.YtbhhpkbiflolfaaQOpenP
import Derived.Maps.AppendAt
import Derived.Deep.DeepMust
import Derived.OwnWalk
namespace Go.Proofs.Ytbhhpkbiflolfaa
open Go.RowKit

set_option maxHeartbeats 1000000 in
theorem mcheck_any {w : World} {v : Value} {vs : List Vw} (h : Vs w v vs) (t : Int) : Calls Try.prog 67 #[.int .i64 t, v] w fun e w' => e = .returned (.int .i64 (chkN vs t)) ∧ Fr w w' (fun _ => False) := by
  have HV := hid h
  obtain ⟨ao, cap, rfl, hl, _⟩ := id h
  clear h
  have HT := hid (fun W : World => isTime_any t W)
  by_cases h4 : 4 < vs.length
  · have e : chkN vs t = 2 := by unfold chkN; rw [if_pos h4]
    have u1 : (4 : Int) < (vs.length : Int) := by omega
    rw [e]
    clear e h4
    go_enter Try.func67, Try.ntmps67
    go_wp2_with fail
    go_ret
    exact ⟨rfl, Fr.refl _ _⟩
  · have u1 : ¬ (4 : Int) < (vs.length : Int) := by omega
    go_enter Try.func67, Try.ntmps67
    go_wp2_with fail
    go_loopg [6, 7, 13] vs.length (fun n s6 s7 s13 wx => ∃ i : Nat, s13 = .int .i64 (i : Int) ∧ Hid (i + n = vs.length) ∧ Hid (∀ j, j < i → OkV (vs.getD j vw0).s (vs.getD j vw0).d (vs.getD j vw0).l) ∧ Hid (Fr w wx (fun _ => False)))
    case atStart => exact ⟨0, rfl, by show _ = _; omega, (by intro j hj; omega), Fr.refl _ _⟩
    case round =>
      obtain ⟨i, rfl, HG, HA, HF⟩ := hrel
      cases gk with
      | zero =>
        have t1 : ¬ (i : Int) < (vs.length : Int) := by have := HG.out; omega
        have hok : okVs vs = true := okVs_all (fun j hj => HA.out j (by have := HG.out; omega))
        rcases hb : isT t with _ | _
        all_goals
          have HE : Hid (chkN vs t = if isT t then 0 else 22) := by show _ = _; unfold chkN; rw [if_neg h4, hok, if_pos rfl]
          rw [hb] at HE HT
          go_wp2_with fail
          refine (HT.out _).mono ?_
          rintro e w1 ⟨rfl, hf⟩
          have HF1 := hid (HF.out.trans hf)
          clear hf
          go_wp2_with fail
          go_ret
          exact ⟨by rw [HE.out]; rfl, HF1.out⟩
      | succ n =>
        have hi : i < vs.length := by have := HG.out; omega
        have t1 : (i : Int) < (vs.length : Int) := by omega
        obtain ⟨b, off, rfl, c0, c1, c2⟩ := (HV.out.fr HF.out (fun _ _ _ _ _ h => h)).at hi
        have hbl : b < wr.heap.size := World.block_lt_of_cell? wr _ c0
        have HI := hid hi
        by_cases hok : OkV (vs.getD i vw0).s (vs.getD i vw0).d (vs.getD i vw0).l
        · have HC := hid (fun W : World => check_ok hok W)
          have HA1 : Hid (∀ j, j < i + 1 → OkV (vs.getD j vw0).s (vs.getD j vw0).d (vs.getD j vw0).l) := fun j hj => by
            rcases Nat.lt_or_ge j i with h | h
            · exact HA.out j h
            · rw [show j = i by omega]; exact hok
          clear hok hi HA
          generalize (vs.getD i vw0).s = vs0 at *
          generalize (vs.getD i vw0).d = vd0 at *
          generalize (vs.getD i vw0).l = vl0 at *
          go_wp2_with fail
          refine (HC.out _).mono ?_
          rintro e w1 ⟨rfl, hf⟩
          have HF1 := hid ((HF.out.alloc _).trans hf)
          clear hf
          go_wp2_with fail
          go_roundg n
          case measure => omega
          case rel => exact ⟨i + 1, by go_num, by have := HG.out; show _ = _; omega, HA1, HF1⟩
        · have HC := hid (fun W : World => check_bad hok W)
          have HE : Hid (chkN vs t = 23) := by show _ = _; unfold chkN; rw [if_neg h4, okVs_not hi hok]; rfl
          clear hok hi
          generalize (vs.getD i vw0).s = vs0 at *
          generalize (vs.getD i vw0).d = vd0 at *
          generalize (vs.getD i vw0).l = vl0 at *
          go_wp2_with fail
          refine (HC.out _).mono ?_
          rintro e w1 ⟨rfl, hf⟩
          have HF1 := hid ((HF.out.alloc _).trans hf)
          clear hf
          go_wp2_with fail
          try rw [Exit.noGoto_ret]
          go_ret
          exact ⟨by rw [HE.out]; rfl, HF1.out⟩

/-- Cells in a row of one's own behind a world. -/
def Cw (w wx : World) (v : Value) (L : List Ce) : Prop := wx.ownsRow w.heap.size 64 3 v L.length (cv L) ∧ Fr w wx (fun _ => False)
theorem Cw.fr {w wx wy : World} {v : Value} {L : List Ce} (h : Cw w wx v L) (hf : Fr wx wy (fun _ => False)) : Cw w wy v L := ⟨own_fr h.1 hf (fun _ _ h => h), h.2.trans hf⟩
theorem infoP {o : Option TypeInfo} {z : Value} {n b : Nat} (h : o.map (fun i => (i.zero, i.size, i.bytes)) = some (some z, n, b)) : ∃ i, o = some i ∧ i.zero = some z ∧ i.size = n ∧ i.bytes = b := by
  cases o with
  | none => simp at h
  | some i =>
    simp at h
    exact ⟨i, rfl, h.1, h.2.1, h.2.2⟩
theorem Try.info_cell : (Try.prog.info? 64).map (fun i => (i.zero, i.size, i.bytes)) = some (some (.agg #[.int .i64 0, .string ⟨#[]⟩, .int .i64 0]), 3, 32) := by kernel_rfl
theorem wpl_cw {W wb : World} {ops : Array Oper} {rest : List Oper} {o : Oper} {a : Act} {Q : Exit → Act → World → Prop} (hgd : o.guard = none) (sl x : Operand)
    (ho : o.op = .call { callee := .builtin .append, args := #[sl, x], argTypes := #[35, 35] }) (v : Value) (l : List Ce) (hs : a.eval sl = v) (N : Nat) (y : Ce) (hx : a.eval x = .slice (some ⟨N, 0, none⟩) 1 1) (hn : l.length ≤ 1000000) (hb : Cw wb W v l) (hy : W.heap[N]? = some (.cells #[.int .i64 (y.v : Int), .string ⟨#[]⟩, .int .i64 y.s] 64 (0, 0)))
    (h : ∀ v' w', Cw wb w' v' (l ++ [y]) → W.grownBy w' v.ownBlock → wpList Try.prog ops Q rest (a.put o.dst v') w') : wpList Try.prog ops Q (o :: rest) a W := by
  obtain ⟨i0, hi, hz0, hz1, hz2⟩ := infoP Try.info_cell
  refine wpList_append_own_at W hgd sl x 35 ho wb.heap.size 64 i0 _ 3 32 Try.underlying35 hi hz0 hz1 hz2 rfl (by decide) v l.length (cv l) hs hb.1 ⟨N, 0, none⟩ 1 1 [.int .i64 (y.v : Int), .string ⟨#[]⟩, .int .i64 y.s] hx rfl ?_ (by intro u hu; simp at hu; rcases hu with rfl | rfl | rfl <;> rfl) (by unfold maxLen; omega) (by omega) hb.2.size ?_
  · intro j u hj
    rw [Addr.add_lit, Nat.zero_add, cell_of_row W N j _ _ (0, 0) hy]
    match j, hj with
    | 0, hj => simpa using hj
    | 1, hj => simpa using hj
    | 2, hj => simpa using hj
  · intro v' w' hown hgr _ hat
    refine h v' w' ⟨?_, hb.2.grown hgr (fun k hk e => by have := hb.1.lt k e; omega)⟩ hgr
    rw [cv_append, List.length_append]
    exact hown

set_option maxHeartbeats 2000000 in
theorem windows_any {w : World} {v : Value} {vs : List Vw} (h : Vs w v vs) {t : Int} (hc : chkN vs t = 0) : Calls Try.prog 68 #[.int .i64 t, v] w fun e w' => ∃ u, e = .returned u ∧ Cw w w' u (winL vs t) := by
  have HV := hid h
  obtain ⟨ao, cap, rfl, hl, _⟩ := id h
  clear h
  obtain ⟨h4, hok, hti⟩ := chk_ok hc
  have HOK := hid hok
  have HTI := hid hti
  clear hok hti hc
  go_enter Try.func68, Try.ntmps68
  go_wp2_with fail
  go_loopg [5, 6, 7, 8, 9, 11, 14] vs.length (fun n s5 s6 s7 s8 s9 s11 s14 wx => ∃ i : Nat, s14 = .int .i64 (i : Int) ∧ Hid (i + n = vs.length) ∧ Hid (Cw w wx s5 (winN vs t i)))
  case atStart => exact ⟨0, rfl, by show _ = _; omega, ⟨⟨rfl, Or.inl ⟨rfl, rfl⟩⟩, Fr.refl _ _⟩⟩
  case round =>
    obtain ⟨i, rfl, HG, HC⟩ := hrel
    cases gk with
    | zero =>
      have t1 : ¬ (i : Int) < (vs.length : Int) := by have := HG.out; omega
      have e : i = vs.length := by have := HG.out; omega
      have HE : Hid (winN vs t i = winL vs t) := by show _ = _; rw [e]; rfl
      clear e
      obtain ⟨a5, c5, e5⟩ := own_nil_shape HC.out.1
      generalize winN vs t i = L0 at *
      subst e5
      go_wp2_with fail
      go_ret
      exact ⟨_, rfl, by rw [← HE.out]; exact HC.out⟩
    | succ n =>
      have hi : i < vs.length := by have := HG.out; omega
      have t1 : (i : Int) < (vs.length : Int) := by omega
      obtain ⟨b, off, rfl, c0, c1, c2⟩ := (HV.out.fr HC.out.2 (fun _ _ _ _ _ h => h)).at hi
      have hbl : b < wr.heap.size := World.block_lt_of_cell? wr _ c0
      have ho := okVs_at HOK.out hi
      have HST := hid (fun W : World => starts_ok ho HTI.out W)
      have HN64 := hid (numP_le (t := t) ho.sd ho.d1)
      have HL0 := hid (winN_len HOK.out t i (by omega))
      have HSUC := hid (winN_succ vs t i)
      have hi4 : i ≤ 4 := by omega
      clear ho hi
      generalize (vs.getD i vw0).s = vs0 at *
      generalize (vs.getD i vw0).d = vd0 at *
      generalize (vs.getD i vw0).l = vl0 at *
      generalize winN vs t i = L0 at *
      obtain ⟨a5, c5, rfl⟩ := own_nil_shape HC.out.1
      go_wp2_with fail
      refine (HST.out _).mono ?_
      rintro e w1 ⟨g, rfl, hg, hrow, hf⟩
      have HR := hid hrow
      have HC1 := hid (HC.out.fr ((alloc_fr _ _ _).trans hf))
      clear hrow hf hg HC HST c0 c1 c2 hbl
      have hsl : (startsL vs0 vd0 t).length ≤ 64 := by rw [startsL_length]; exact HN64.out
      go_wp2_with fail
      obtain ⟨S0, hS0⟩ : ∃ S0, S0 = startsL vs0 vd0 t := ⟨_, rfl⟩
      rw [← hS0] at HR hsl HSUC ⊢
      clear hS0
      go_loopg [5, 11, 27] S0.length (fun n s5 s11 s27 wx => ∃ j : Nat, s27 = .int .i64 (j : Int) ∧ Hid (j + n = S0.length) ∧ Hid (RowV wx g (iv S0)) ∧ Hid (Cw w wx s5 (L0 ++ (S0.take j).map fun x => ⟨i, x⟩)))
      case atStart => exact ⟨0, rfl, by show _ = _; omega, HR, hid (by simpa using HC1.out)⟩
      case round =>
        obtain ⟨j, rfl, HJ, HR2, HC2⟩ := hrel
        clear HR HC1
        have hlt := HR2.out.lt
        cases gk with
        | zero =>
          have u1 : ¬ (j : Int) < (S0.length : Int) := by have := HJ.out; omega
          have HE : Hid (L0 ++ (S0.take j).map (fun x => (⟨i, x⟩ : Ce)) = winN vs t (i + 1)) := by
            show _ = _
            rw [HSUC.out, List.take_of_length_le (by have := HJ.out; omega)]
          rw [HE.out] at HC2
          go_wp2_with fail
          go_roundg n
          case measure => omega
          case rel => exact ⟨i + 1, by go_num, by have := HG.out; show _ = _; omega, HC2⟩
        | succ q =>
          have hj : j < S0.length := by have := HJ.out; omega
          have u1 : (j : Int) < (S0.length : Int) := by omega
          have c1 := HR2.out.cell j
          rw [iv_get _ _ hj] at c1
          have HTK : Hid (L0 ++ (S0.take (j + 1)).map (fun x => (⟨i, x⟩ : Ce)) = (L0 ++ (S0.take j).map (fun x => (⟨i, x⟩ : Ce))) ++ [⟨i, S0.getD j 0⟩]) := by
            show _ = _
            rw [List.take_add_one, List.map_append, ← List.append_assoc]
            simp [List.getD, hj]
          have hll : (L0 ++ (S0.take j).map (fun x => (⟨i, x⟩ : Ce))).length ≤ 1000 := by
            have := HL0.out
            rw [List.length_append, List.length_map, List.length_take]
            omega
          generalize S0.getD j 0 = x0 at *
          generalize L0 ++ (S0.take j).map (fun x => (⟨i, x⟩ : Ce)) = L1 at *
          obtain ⟨a6, c6, rfl⟩ := own_nil_shape HC2.out.1
          have HJL := hid hj
          have HLL := hid hll
          clear hj hll
          go_wp2_with (at_builtin; go_must (refine wpl_cw (wb := w) rfl (.tmp 31) (.tmp 35) rfl _ L1 rfl wr.heap.size ⟨i, x0⟩ rfl ?c1 ?c2 ?c3 ?_))
          case c1 => have := HLL.out; omega
          case c2 => exact HC2.out.fr (alloc_fr _ _ _)
          case c3 =>
            have h := heap_last wr (.cells #[.int .i64 (i : Int), .string ⟨#[]⟩, .int .i64 x0] 64) _ rfl
            first
            | exact h
            | (rw [Array.getElem?_eq_getElem (by simp)] at h; exact Option.some.inj h)
          intro v2 w4 hE4 hg4
          have HE4 := hid hE4
          have HR4 : Hid (RowV w4 g (iv S0)) := by
            have h1 := HR2.out.fr (alloc_fr wr (.cells #[.int .i64 (i : Int), .string ⟨#[]⟩, .int .i64 x0] 64) (fun _ => False)) (fun h => h)
            show w4.heap[g]? = _
            rw [hg4.block g h1.lt (fun e => own_ne (HC2.out.fr (alloc_fr wr (.cells #[.int .i64 (i : Int), .string ⟨#[]⟩, .int .i64 x0] 64) _)).1 h1 (by decide) e.symm)]
            exact h1
          clear hE4 hg4
          go_wp2_with fail
          go_roundg q
          case measure => omega
          case rel => exact ⟨j + 1, by go_num, by have := HJ.out; show _ = _; omega, HR4, by rw [HTK.out]; exact HE4⟩
end Go.Proofs.Ytbhhpkbiflolfaa
