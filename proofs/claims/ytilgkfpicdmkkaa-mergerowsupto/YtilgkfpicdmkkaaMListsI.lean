import Derived.Test.YtilgkfpicdmkkaaMNewI
import Derived.Maps.AppendAt
/- merge: Lists: a walk (lists of int). -/
namespace Go.Proofs.Ytilgkfpicdmkkaa.M.I
open Go.RowKit

theorem Rs.rebase {S : Rt → Value} {f : Value} {w0 wk W : World} {B : Nat} {v : Value} {hs : List Rt} (h : Rs S f w0 wk W B v hs) : Rs S f w0 W W B v hs := ⟨h.cell, h.own, h.fr, h.hB, h.len, Kps.refl W⟩
theorem Rs.frT {S : Rt → Value} {f : Value} {w0 wk W W' : World} {B : Nat} {v : Value} {hs : List Rt} {T : Nat → Prop} (h : Rs S f w0 wk W B v hs) (hf : Fr W W' T) (hB : ¬ T B) (hv : ∀ k, v.ownBlock = some k → ¬ T k) (h0 : ∀ k, T k → w0.heap.size ≤ k) : Rs S f w0 W' W' B v hs :=
  ⟨by rw [hf.block B h.lt hB]; exact h.cell, own_fr h.own hf hv, h.fr.trans2 hf (fun i hi ht => by have := h0 i ht; omega), h.hB, h.len, Kps.refl W'⟩
theorem own_kps {w w' : World} {base : Nat} {e : TypeId} {size : Nat} {v : Value} {n : Nat} {xs : List Value} (h : w.ownsRow base e size v n xs) (hk : Kps w w') (h1 : e ≠ 95) (h2 : e ≠ 93) : w'.ownsRow base e size v n xs := by
  refine ⟨h.1, ?_⟩
  rcases h.2 with hn | ⟨g, cap, cur, hv, hb, hg, rest⟩
  · exact .inl hn
  · exact .inr ⟨g, cap, cur, hv, hb, hk g cur e (0, 0) hg h1 h2, rest⟩
/-- Rows of unlike kinds lie in unlike blocks. -/
theorem own_unlike {w : World} {b1 b2 : Nat} {e1 e2 : TypeId} {s1 s2 : Nat} {v1 v2 : Value} {n1 n2 : Nat} {x1 x2 : List Value} (h1 : w.ownsRow b1 e1 s1 v1 n1 x1) (h2 : w.ownsRow b2 e2 s2 v2 n2 x2) (he : e1 ≠ e2) : ∀ k, v1.ownBlock = some k → v2.ownBlock ≠ some k := by
  intro k hk hk2
  rcases h1.2 with ⟨e, _⟩ | ⟨g, cap, cur, e, _, hg, _⟩
  · rw [e] at hk; simp [Value.ownBlock] at hk
  · rcases h2.2 with ⟨e', _⟩ | ⟨g', cap', cur', e', _, hg', _⟩
    · rw [e'] at hk2; simp [Value.ownBlock] at hk2
    · rw [e] at hk
      rw [e'] at hk2
      simp only [Value.ownBlock, Option.some.injEq] at hk hk2
      subst hk
      subst hk2
      rw [hg] at hg'
      simp only [Option.some.injEq, Obj.cells.injEq] at hg'
      exact he hg'.2.1

/-- Elements as values. -/
def iv (l : List Int) : List Value := l.map eV
theorem iv_length (l : List Int) : (iv l).length = l.length := by simp [iv]
theorem iv_append (a b : List Int) : iv (a ++ b) = iv a ++ iv b := by simp [iv]
theorem Try.info_elI : (Try.prog.info? 3).map (fun i => (i.zero, i.size, i.bytes)) = some (some (eV default), 1, 8) := by kernel_rfl
/-- Elements in a row of one's own behind a world. -/
def Eo (w wx : World) (v : Value) (l : List Int) : Prop := wx.ownsRow w.heap.size 3 1 v l.length (iv l) ∧ Fr w wx (fun _ => False)
theorem Eo.fr {w wx wy : World} {v : Value} {l : List Int} (h : Eo w wx v l) (hf : Fr wx wy (fun _ => False)) : Eo w wy v l := ⟨own_fr h.1 hf (fun _ _ h => h), h.2.trans hf⟩
theorem wpl_eo {W wb : World} {ops : Array Oper} {rest : List Oper} {o : Oper} {a : Act} {Q : Exit → Act → World → Prop} (hgd : o.guard = none) (sl x : Operand)
    (ho : o.op = .call { callee := .builtin .append, args := #[sl, x], argTypes := #[36, 36] }) (v : Value) (l : List Int) (hs : a.eval sl = v) (N : Nat) (y : Int) (hx : a.eval x = .slice (some ⟨N, 0, none⟩) 1 1) (hn : l.length ≤ 1000000000) (hb : Eo wb W v l) (hy : W.cell? ⟨N, 0, none⟩ = some (eV y))
    (h : ∀ v' w', Eo wb w' v' (l ++ [y]) → W.grownBy w' v.ownBlock → wpList Try.prog ops Q rest (a.put o.dst v') w') : wpList Try.prog ops Q (o :: rest) a W := by
  obtain ⟨i0, hi, hz0, hz1, hz2⟩ := infoP Try.info_elI
  refine wpList_append_own_at W hgd sl x 36 ho wb.heap.size 3 i0 (eV default) 1 8 Try.underlying36 hi hz0 hz1 hz2 rfl (by decide) v l.length (iv l) hs hb.1 ⟨N, 0, none⟩ 1 1 [eV y] hx rfl ?_ (by intro u hu; simp at hu; rw [hu]; rfl) (by unfold maxLen; omega) (by omega) hb.2.size ?_
  · intro j u hj
    match j, hj with
    | 0, hj => simp at hj; subst hj; exact hy
  · intro v' w' hown hgr _ hat
    refine h v' w' ⟨?_, hb.2.grown hgr (fun k hk e => by have := hb.1.lt k e; omega)⟩ hgr
    rw [iv_append, List.length_append]
    exact hown

def ltE (a b : Int) : Bool := decide (a < b)
/-- What is told so far, and one more. -/
def dd (out : List Int) (x : Int) : List Int := if out = [] ∨ ltE (out.getLast?.getD default) x = true then out ++ [x] else out
/-- Each once. -/
def ded (l : List Int) : List Int := l.foldl dd []
theorem ded_snoc (l : List Int) (x : Int) : ded (l ++ [x]) = dd (ded l) x := by simp [ded]
theorem ded_len (l : List Int) : (ded l).length ≤ l.length := by
  have : ∀ (l out : List Int), (l.foldl dd out).length ≤ out.length + l.length := by
    intro l
    induction l with
    | nil => simp
    | cons x l ih =>
      intro out
      have := ih (dd out x)
      have h2 : (dd out x).length ≤ out.length + 1 := by unfold dd; split <;> simp
      simp only [List.foldl_cons, List.length_cons]
      omega
  have := this l []
  unfold ded
  simpa using this

/-- What stands in the rounds of Lists, Rows: done is told, F is left. -/
structure LI (sv : Nat → Sv) (ls : List (List Int)) (w wx : World) (B : Nat) (done : List Int) (F : List (List Int)) (hs : List Rt) (v : Value) : Prop where
  rs : Rs (slv sv ls) fv w wx wx B v hs
  hr : HR cmE hs F
  sf : ∀ p, p < F.length → ∃ d, gl F p = (gl ls p).drop d
  eq : merged cmE ls = done ++ merged cmE F
theorem gl_set {F : List (List Int)} {p q : Nat} {t : List Int} (h : p < F.length) : gl (F.set p t) q = if p = q then t else gl F q := by
  unfold gl
  rw [List.getElem?_set]
  split
  · rfl
  · rfl
theorem Eo.shape {w wx : World} {v : Value} {l : List Int} (h : Eo w wx v l) : ∃ ao cap, v = .slice ao l.length cap := own_nil_shape h.1
theorem Eo.cell {w wx : World} {v : Value} {l : List Int} (h : Eo w wx v l) (hl : l ≠ []) : ∃ g cap, v = .slice (some ⟨g, 0, none⟩) l.length cap ∧ g < wx.heap.size ∧ ∀ i, i < l.length → wx.cell? ⟨g, i, none⟩ = some (eV (l[i]?.getD default)) := by
  rcases h.1.2 with ⟨_, h'⟩ | ⟨g, cap, cur, rfl, hb, hg, hn, hm, hcs, htake⟩
  · exact absurd (List.eq_nil_of_length_eq_zero h') hl
  · refine ⟨g, cap, rfl, lt_of_block hg, fun i hi => ?_⟩
    rw [cell_of_row wx g i _ _ (0, 0) hg]
    have : (cur.toList.take (l.length * 1))[i]? = some (eV (l[i]?.getD default)) := by
      rw [htake]
      simp [iv, hi]
    rw [List.getElem?_take, if_pos (by omega)] at this
    simpa using this
/-- A take from it. -/
theorem LI.take {sv : Nat → Sv} {ls : List (List Int)} {w wx : World} {B : Nat} {done : List Int} {F : List (List Int)} {x : Rt} {hs : List Rt} {v : Value} (h : LI sv ls w wx B done F (x :: hs) v) (hL : Ls w sv ls) :
    Calls Try.prog 33 #[.pointer (some ⟨B, 0, none⟩)] wx fun e w' => e = .returned (eV x.hd) ∧ Kps wx w' ∧ ∃ v' F' hs', LI sv ls w w' B (done ++ [x.hd]) F' hs' v' ∧ Fr w w' (fun _ => False) ∧ tot F = tot F' + 1 := by
  have hsf := mem_sf h.hr h.sf
  have hx := hsf x (by simp)
  obtain ⟨f1, f2⟩ := h.hr.first cmE_cm
  refine (take_any wx h.rs (fun r hr => (hsf r (by simp [hr])).hd hL) (hx.hd hL) (slv_slice sv ls) (slv_tail hL hx) (fun ht => (hx.tail ht).hd hL)).mono ?_
  rintro e w' ⟨rfl, v', hr⟩
  obtain ⟨_, g1, g2⟩ := rs_mem f1
  rw [Nat.sub_zero] at g1
  have hlt : x.p < F.length := (List.getElem?_eq_some_iff.1 g1).1
  refine ⟨rfl, hr.kp, v', F.set x.p x.l.tail, takeH (x :: hs), ⟨hr.rebase, ?_, ?_, ?_⟩, hr.fr, tot_step f1⟩
  · rw [takeH]
    by_cases ht : x.l.tail = []
    · rw [if_pos (by rw [ht]; rfl)]
      exact h.hr.pop cmE_cm ht _
    · rw [if_neg (by simpa using ht)]
      exact h.hr.fix cmE_cm ht
  · intro p hp
    rw [List.length_set] at hp
    rw [gl_set hlt]
    split
    · rename_i e
      obtain ⟨d, hd⟩ := h.sf p hp
      refine ⟨d + 1, ?_⟩
      have e2 : x.l = gl F p := by unfold gl; rw [← e, g1]; rfl
      rw [e2, hd, List.tail_drop]
    · exact h.sf p hp
  · rw [h.eq, merged_some cmE_cm f1 f2]
    simp

theorem LI.fr {sv : Nat → Sv} {ls : List (List Int)} {w wx wy : World} {B : Nat} {done : List Int} {F : List (List Int)} {hs : List Rt} {v : Value} (h : LI sv ls w wx B done F hs v) (hf : Fr wx wy (fun _ => False)) : LI sv ls w wy B done F hs v := ⟨(h.rs.step hf).rebase, h.hr, h.sf, h.eq⟩
/-- An append to what is told leaves the rest. -/
theorem LI.grown {sv : Nat → Sv} {ls : List (List Int)} {w wx wy : World} {B : Nat} {done : List Int} {F : List (List Int)} {hs : List Rt} {v kv : Value} {l : List Int} (h : LI sv ls w wx B done F hs v) (hE : Eo w wx kv l) (hg : wx.grownBy wy kv.ownBlock) : LI sv ls w wy B done F hs v :=
  ⟨h.rs.frT (T := fun k => kv.ownBlock = some k) ((Fr.refl wx _).grown hg (fun _ _ e => e)) (own_ne hE.1 h.rs.cell (by decide)) (own_unlike h.rs.own hE.1 (by decide)) (fun k e => (hE.1.lt k e).1), h.hr, h.sf, h.eq⟩

set_option maxHeartbeats 1000000 in
set_option maxRecDepth 100000 in
theorem lists_any {sv : Nat → Sv} {ls : List (List Int)} {lv : Value} (w : World) (h : LsAt w sv ls lv) (ht : tot ls ≤ 1000000000) :
    Calls Try.prog 16 #[lv] w fun e w' => ∃ v, e = .returned v ∧ Eo w w' v (ded (merged cmE ls)) := by
  have HN := hid (new_any w h)
  have HL : Hid (Ls w sv ls) := by obtain ⟨_, _, _, _, hL, _⟩ := h; exact hL
  clear h
  unfold fv at HN
  go_enter Try.func16, Try.ntmps16
  go_wp2_with fail
  refine HN.out.mono ?_
  rintro e w1 ⟨B, rfl, v, hs, hr, hh⟩
  have HI : Hid (LI sv ls w w1 B [] ls hs v) := ⟨hr.rebase, hh, fun p _ => ⟨0, by simp⟩, by simp⟩
  have HE : Hid (Eo w w1 (.slice none 0 0) (ded [])) := ⟨⟨rfl, Or.inl ⟨rfl, rfl⟩⟩, hr.fr⟩
  clear hr hh HN
  go_wp2_with fail
  have HE0 : Hid (ded ([] : List Int) = []) := rfl
  go_loopg [4] (tot ls) (fun g s4 wx => ∃ (done : List Int) (F : List (List Int)) (hs : List Rt) (v : Value), tot F ≤ g ∧ done.length + tot F = tot ls ∧ Hid (Eo w wx s4 (ded done)) ∧ Hid (LI sv ls w wx B done F hs v))
  case atStart => exact ⟨[], ls, hs, v, Nat.le_refl _, by simp, HE, HI⟩
  case round =>
    obtain ⟨done, F, hs, v, hg, hdl, HEo, HLI⟩ := hrel
    clear HI HE HE0
    have HLn := hid (len_any _ HLI.out.rs)
    have hhl := HLI.out.rs.len
    obtain ⟨ao, cap, rfl⟩ := HEo.out.shape
    cases hs with
    | nil =>
      have HM : Hid (merged cmE ls = done) := by
        show merged cmE ls = done
        rw [HLI.out.eq, merged_none cmE_cm HLI.out.hr.empty, List.append_nil]
      go_wp2_with fail
      refine HLn.out.mono ?_
      rintro e w2 ⟨rfl, rfl⟩
      go_wp2_with fail
      go_ret
      refine ⟨_, rfl, ?_⟩
      rw [HM.out]
      exact HEo.out
    | cons x hs =>
      have t1 : (0 : Int) < ((x :: hs).length : Int) := by simp only [List.length_cons]; omega
      have HTk := hid (HLI.out.take HL.out)
      have HEk := hid (fun (W : World) (h1 : Kps wr W) (h2 : Fr w W (fun _ => False)) => (⟨own_kps HEo.out.1 h1 (by decide) (by decide), h2⟩ : Eo w W (.slice ao (ded done).length cap) (ded done)))
      have hdd := ded_len done
      generalize hD : ded done = D at *
      have HD := hid hD
      clear hD HLI HEo
      go_wp2_with fail
      refine HLn.out.mono ?_
      rintro e w2 ⟨rfl, rfl⟩
      go_wp2_with fail
      refine HTk.out.mono ?_
      rintro e w3 ⟨rfl, hk, v', F', hs', hli, hfr, htt⟩
      have HLI := hid hli
      have HEo : Hid (Eo w w3 (.slice ao D.length cap) D) := HEk.out _ hk hfr
      clear HTk HLn HEk hk hli hfr
      generalize hy : R.hd x = y at *
      have HDD : Hid (ded (done ++ [y]) = dd D y) := by
        show ded (done ++ [y]) = dd D y
        rw [ded_snoc, HD.out]
      clear hy
      by_cases hD0 : D = []
      · subst hD0
        have hdy : dd [] y = [] ++ [y] := by unfold dd; rw [if_pos (Or.inl rfl)]
        rw [hdy] at HDD
        clear hdy
        unfold eV
        go_wp2_with (at_builtin; go_must (refine wpl_eo (wb := w) rfl (.tmp 26) (.tmp 28) rfl _ [] rfl w3.heap.size y rfl ?c1 ?c2 ?c3 ?_))
        case c1 => simp
        case c2 => exact HEo.out.fr (alloc_fr _ _ _)
        case c3 => exact cell_of_one (heap_last w3 (.cells #[eV y] 3) _ rfl)
        intro v2 w4 hE4 hg4
        have HE4 : Hid (Eo w w4 v2 (ded (done ++ [y]))) := by
          show Eo w w4 v2 (ded (done ++ [y]))
          rw [HDD.out]
          exact hE4
        have HL4 := hid ((HLI.out.fr (alloc_fr w3 (.cells #[eV y] 3) _)).grown (HEo.out.fr (alloc_fr w3 (.cells #[eV y] 3) _)) hg4)
        clear hE4 hg4
        go_wp2_with fail
        go_roundg (gk - 1)
        case measure => omega
        case rel => exact ⟨done ++ [y], F', hs', v', by omega, by simp; omega, HE4, HL4⟩
      · obtain ⟨gg, cc, e0, hgl, hcl⟩ := HEo.out.cell hD0
        simp only [Value.slice.injEq] at e0
        obtain ⟨rfl, _, rfl⟩ := e0
        have hpos : 0 < D.length := List.length_pos_iff.2 hD0
        have hc := hcl (D.length - 1) (by omega)
        have hla : D[D.length - 1]?.getD default = D.getLast?.getD default := by rw [List.getLast?_eq_getElem?]
        rw [hla] at hc
        clear hcl hla
        have t2 : ((D.length : Int) == 0) = false := by simp; omega
        have t3 : 0 ≤ (D.length : Int) - 1 := by omega
        have t4 : (D.length : Int) - 1 < (D.length : Int) := by omega
        have t5 : (D.length : Int) - 1 = ((D.length - 1 : Nat) : Int) := by omega
        have HD0 := hid hD0
        clear hD0
        generalize hz : D.getLast?.getD default = z at *
        have HZ := hid hz
        clear hz
        by_cases hlt : ltE z y = true
        · have hdy : dd D y = D ++ [y] := by unfold dd; rw [HZ.out, if_pos (Or.inr hlt)]
          rw [hdy] at HDD
          clear hdy
          have t6 : z < y := by simpa [ltE] using hlt
          unfold eV at hc ⊢
          clear hlt
          go_wp2_with (at_builtin; go_must (refine wpl_eo (wb := w) rfl (.tmp 26) (.tmp 28) rfl _ D rfl w3.heap.size y rfl ?c1 ?c2 ?c3 ?_))
          case c1 => omega
          case c2 => exact HEo.out.fr (alloc_fr _ _ _)
          case c3 => exact cell_of_one (heap_last w3 (.cells #[eV y] 3) _ rfl)
          intro v2 w4 hE4 hg4
          have HE4 : Hid (Eo w w4 v2 (ded (done ++ [y]))) := by
            show Eo w w4 v2 (ded (done ++ [y]))
            rw [HDD.out]
            exact hE4
          have HL4 := hid ((HLI.out.fr (alloc_fr w3 (.cells #[eV y] 3) _)).grown (HEo.out.fr (alloc_fr w3 (.cells #[eV y] 3) _)) hg4)
          clear hE4 hg4
          go_wp2_with fail
          go_roundg (gk - 1)
          case measure => omega
          case rel => exact ⟨done ++ [y], F', hs', v', by omega, by simp; omega, HE4, HL4⟩
        · have hdy : dd D y = D := by unfold dd; rw [HZ.out, if_neg (by rintro (h | h); exact HD0.out h; exact hlt h)]
          rw [hdy] at HDD
          clear hdy
          have t6 : ¬ z < y := by simpa [ltE] using hlt
          unfold eV at hc ⊢
          clear hlt
          have HE4 : Hid (Eo w w3 (.slice (some ⟨gg, 0, none⟩) D.length cap) (ded (done ++ [y]))) := by
            show Eo w w3 _ (ded (done ++ [y]))
            rw [HDD.out]
            exact HEo.out
          go_wp2_with fail
          go_roundg (gk - 1)
          case measure => omega
          case rel => exact ⟨done ++ [y], F', hs', v', by omega, by simp; omega, HE4, HLI⟩
end Go.Proofs.Ytilgkfpicdmkkaa.M.I
