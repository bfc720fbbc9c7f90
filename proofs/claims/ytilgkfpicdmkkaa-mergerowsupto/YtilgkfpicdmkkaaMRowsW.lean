import Derived.Test.YtilgkfpicdmkkaaMNewW
/- merge: Rows: a walk (lists of api.Row). -/
namespace Go.Proofs.Ytilgkfpicdmkkaa.M.W
open Go.RowKit

theorem Rs.rebase {S : Rt → Value} {f : Value} {w0 wk W : World} {B : Nat} {v : Value} {hs : List Rt} (h : Rs S f w0 wk W B v hs) : Rs S f w0 W W B v hs := ⟨h.cell, h.own, h.fr, h.hB, h.len, Kps.refl W⟩
theorem Rs.frT {S : Rt → Value} {f : Value} {w0 wk W W' : World} {B : Nat} {v : Value} {hs : List Rt} {T : Nat → Prop} (h : Rs S f w0 wk W B v hs) (hf : Fr W W' T) (hB : ¬ T B) (hv : ∀ k, v.ownBlock = some k → ¬ T k) (h0 : ∀ k, T k → w0.heap.size ≤ k) : Rs S f w0 W' W' B v hs :=
  ⟨by rw [hf.block B h.lt hB]; exact h.cell, own_fr h.own hf hv, h.fr.trans2 hf (fun i hi ht => by have := h0 i ht; omega), h.hB, h.len, Kps.refl W'⟩
theorem own_kps {w w' : World} {base : Nat} {e : TypeId} {size : Nat} {v : Value} {n : Nat} {xs : List Value} (h : w.ownsRow base e size v n xs) (hk : Kps w w') (h1 : e ≠ 87) (h2 : e ≠ 84) : w'.ownsRow base e size v n xs := by
  refine ⟨h.1, ?_⟩
  rcases h.2 with hn | ⟨g, cap, cur, hv, hb, hg, rest⟩
  · exact .inl hn
  · exact .inr ⟨g, cap, cur, hv, hb, hk g cur e (0, 0) hg h1 h2, rest⟩
/-- Rows of unlike kinds lie in unlike blocks. -/
theorem own_unlike {w : World} {b1 b2 : Nat} {e1 e2 : TypeId} {s1 s2 : Nat} {v1 v2 : Value} {n1 n2 : Nat} {x1 x2 : List Value} (h1 : w.ownsRow b1 e1 s1 v1 n1 x1) (h2 : w.ownsRow b2 e2 s2 v2 n2 x2) (he : e1 ≠ e2) : ∀ k, v1.ownBlock = some k → v2.ownBlock ≠ some k := by
  intro k hk hk2
  rcases h1.2 with ⟨e, _⟩ | ⟨g, cap, cur, e, _, hg, _⟩
  · rw [e] at hk; simp [Value.ownBlock] at hk
  · rcases h2.2 with ⟨e', _⟩ | ⟨g', cap', cur', e', _, hg', _⟩
    · rw [e'] at hk2; simp [Value.ownBlock] at hk2
    · rw [e] at hk
      rw [e'] at hk2
      simp only [Value.ownBlock, Option.some.injEq] at hk hk2
      subst hk
      subst hk2
      rw [hg] at hg'
      simp only [Option.some.injEq, Obj.cells.injEq] at hg'
      exact he hg'.2.1

/-- Rows of one's own behind a world. -/
def Ro7 (w wx : World) (v : Value) (l : List Rw) : Prop := wx.ownsRow w.heap.size 54 7 v l.length (rc l) ∧ Fr w wx (fun _ => False)
theorem Ro7.fr {w wx wy : World} {v : Value} {l : List Rw} (h : Ro7 w wx v l) (hf : Fr wx wy (fun _ => False)) : Ro7 w wy v l := ⟨own_fr h.1 hf (fun _ _ h => h), h.2.trans hf⟩
theorem Ro7.shape {w wx : World} {v : Value} {l : List Rw} (h : Ro7 w wx v l) : ∃ ao cap, v = .slice ao l.length cap := own_nil_shape h.1
theorem Try.info_r7 : (Try.prog.info? 54).map (fun i => (i.zero, i.size, i.bytes)) = some (some (.agg #[.int .i64 0, .string ⟨#[]⟩, .int .i64 0, .int .i64 0, .int .i64 0, .int .i64 0, .int .i64 0]), 7, 64) := by kernel_rfl
theorem r7_new (w : World) (a b c d f g i : Value) (e : TypeId) : ∀ (j : Nat) (u : Value), [a, b, c, d, f, g, i][j]? = some u → (w.alloc (.cells #[a, b, c, d, f, g, i] e)).cell? ((⟨w.heap.size, 0, none⟩ : Addr).add j) = some u := by
  intro j u hj
  match j, hj with
  | 0, hj => simp at hj; subst hj; simp [Addr.add]
  | 1, hj => simp at hj; subst hj; simp [Addr.add]
  | 2, hj => simp at hj; subst hj; simp [Addr.add]
  | 3, hj => simp at hj; subst hj; simp [Addr.add]
  | 4, hj => simp at hj; subst hj; simp [Addr.add]
  | 5, hj => simp at hj; subst hj; simp [Addr.add]
  | 6, hj => simp at hj; subst hj; simp [Addr.add]
  | j + 7, hj => simp at hj
theorem wpl_r7 {W wb : World} {ops : Array Oper} {rest : List Oper} {o : Oper} {a : Act} {Q : Exit → Act → World → Prop} (hgd : o.guard = none) (sl x : Operand)
    (ho : o.op = .call { callee := .builtin .append, args := #[sl, x], argTypes := #[22, 22] }) (v : Value) (l : List Rw) (hs : a.eval sl = v) (y : Rw) (hx : a.eval x = .slice (some ⟨W.heap.size, 0, none⟩) 1 1) (hn : l.length ≤ 1000000000) (hb : Ro7 wb W v l)
    (h : ∀ v' w', Ro7 wb w' v' (l ++ [y]) → (W.alloc (.cells #[.int .i64 y.c.v, .string y.c.k, .int .i64 y.c.s, .int .i64 y.n, .int .i64 y.s, .int .i64 y.m, .int .i64 y.x] 54)).grownBy w' v.ownBlock → wpList Try.prog ops Q rest (a.put o.dst v') w') : wpList Try.prog ops Q (o :: rest) a (W.alloc (.cells #[.int .i64 y.c.v, .string y.c.k, .int .i64 y.c.s, .int .i64 y.n, .int .i64 y.s, .int .i64 y.m, .int .i64 y.x] 54)) := by
  obtain ⟨i0, hi, hz0, hz1, hz2⟩ := infoP Try.info_r7
  have hb2 := hb.fr (alloc_fr W (.cells #[.int .i64 y.c.v, .string y.c.k, .int .i64 y.c.s, .int .i64 y.n, .int .i64 y.s, .int .i64 y.m, .int .i64 y.x] 54) (fun _ => False))
  refine wpList_append_own_at _ hgd sl x 22 ho wb.heap.size 54 i0 _ 7 64 Try.underlying22 hi hz0 hz1 hz2 rfl (by decide) v l.length (rc l) hs hb2.1 ⟨W.heap.size, 0, none⟩ 1 1 [.int .i64 y.c.v, .string y.c.k, .int .i64 y.c.s, .int .i64 y.n, .int .i64 y.s, .int .i64 y.m, .int .i64 y.x] hx rfl (r7_new W _ _ _ _ _ _ _ _) (by intro u hu; simp at hu; rcases hu with rfl | rfl | rfl | rfl | rfl | rfl | rfl <;> rfl) (by unfold maxLen; omega) (by omega) hb2.2.size ?_
  intro v' w' hown hgr _ hat
  refine h v' w' ⟨?_, hb2.2.grown hgr (fun k hk e => by have := hb2.1.lt k e; omega)⟩ hgr
  rw [rc_append, List.length_append]
  exact hown

/-- What stands in the rounds of Lists, Rows: done is told, F is left. -/
structure LI (sv : Nat → Sv) (ls : List (List Rw)) (w wx : World) (B : Nat) (done : List Rw) (F : List (List Rw)) (hs : List Rt) (v : Value) : Prop where
  rs : Rs (slv sv ls) fv w wx wx B v hs
  hr : HR cmE hs F
  sf : ∀ p, p < F.length → ∃ d, gl F p = (gl ls p).drop d
  eq : merged cmE ls = done ++ merged cmE F
theorem gl_set {F : List (List Rw)} {p q : Nat} {t : List Rw} (h : p < F.length) : gl (F.set p t) q = if p = q then t else gl F q := by
  unfold gl
  rw [List.getElem?_set]
  split
  · rfl
  · rfl
/-- A take from it. -/
theorem LI.take {sv : Nat → Sv} {ls : List (List Rw)} {w wx : World} {B : Nat} {done : List Rw} {F : List (List Rw)} {x : Rt} {hs : List Rt} {v : Value} (h : LI sv ls w wx B done F (x :: hs) v) (hL : Ls w sv ls) :
    Calls Try.prog 29 #[.pointer (some ⟨B, 0, none⟩)] wx fun e w' => e = .returned (eV x.hd) ∧ Kps wx w' ∧ ∃ v' F' hs', LI sv ls w w' B (done ++ [x.hd]) F' hs' v' ∧ Fr w w' (fun _ => False) ∧ tot F = tot F' + 1 := by
  have hsf := mem_sf h.hr h.sf
  have hx := hsf x (by simp)
  obtain ⟨f1, f2⟩ := h.hr.first cmE_cm
  refine (take_any wx h.rs (fun r hr => (hsf r (by simp [hr])).hd hL) (hx.hd hL) (slv_slice sv ls) (slv_tail hL hx) (fun ht => (hx.tail ht).hd hL)).mono ?_
  rintro e w' ⟨rfl, v', hr⟩
  obtain ⟨_, g1, g2⟩ := rs_mem f1
  rw [Nat.sub_zero] at g1
  have hlt : x.p < F.length := (List.getElem?_eq_some_iff.1 g1).1
  refine ⟨rfl, hr.kp, v', F.set x.p x.l.tail, takeH (x :: hs), ⟨hr.rebase, ?_, ?_, ?_⟩, hr.fr, tot_step f1⟩
  · rw [takeH]
    by_cases ht : x.l.tail = []
    · rw [if_pos (by rw [ht]; rfl)]
      exact h.hr.pop cmE_cm ht _
    · rw [if_neg (by simpa using ht)]
      exact h.hr.fix cmE_cm ht
  · intro p hp
    rw [List.length_set] at hp
    rw [gl_set hlt]
    split
    · rename_i e
      obtain ⟨d, hd⟩ := h.sf p hp
      refine ⟨d + 1, ?_⟩
      have e2 : x.l = gl F p := by unfold gl; rw [← e, g1]; rfl
      rw [e2, hd, List.tail_drop]
    · exact h.sf p hp
  · rw [h.eq, merged_some cmE_cm f1 f2]
    simp

theorem LI.fr {sv : Nat → Sv} {ls : List (List Rw)} {w wx wy : World} {B : Nat} {done : List Rw} {F : List (List Rw)} {hs : List Rt} {v : Value} (h : LI sv ls w wx B done F hs v) (hf : Fr wx wy (fun _ => False)) : LI sv ls w wy B done F hs v := ⟨(h.rs.step hf).rebase, h.hr, h.sf, h.eq⟩
/-- An append to what is told leaves the rest. -/
theorem LI.grown {sv : Nat → Sv} {ls : List (List Rw)} {w wx wy : World} {B : Nat} {done : List Rw} {F : List (List Rw)} {hs : List Rt} {v kv : Value} {l : List Rw} (h : LI sv ls w wx B done F hs v) (hE : Ro7 w wx kv l) (hg : wx.grownBy wy kv.ownBlock) : LI sv ls w wy B done F hs v :=
  ⟨h.rs.frT (T := fun k => kv.ownBlock = some k) ((Fr.refl wx _).grown hg (fun _ _ e => e)) (own_ne hE.1 h.rs.cell (by decide)) (own_unlike h.rs.own hE.1 (by decide)) (fun k e => (hE.1.lt k e).1), h.hr, h.sf, h.eq⟩

set_option maxHeartbeats 1000000 in
set_option maxRecDepth 100000 in
theorem rows_any {sv : Nat → Sv} {ls : List (List Rw)} {lv : Value} (most : Int) (w : World) (h : LsAt w sv ls lv) (ht : tot ls ≤ 1000000000) :
    Calls Try.prog 10 #[.int .i64 most, lv] w fun e w' => ∃ v, e = .returned v ∧ Ro7 w w' v ((merged cmE ls).take most.toNat) := by
  have HN := hid (new_any w h)
  have HL : Hid (Ls w sv ls) := by obtain ⟨_, _, _, _, hL, _⟩ := h; exact hL
  clear h
  unfold fv at HN
  go_enter Try.func10, Try.ntmps10
  go_wp2_with fail
  refine HN.out.mono ?_
  rintro e w1 ⟨B, rfl, v, hs, hr, hh⟩
  have HI : Hid (LI sv ls w w1 B [] ls hs v) := ⟨hr.rebase, hh, fun p _ => ⟨0, by simp⟩, by simp⟩
  have HE : Hid (Ro7 w w1 (.slice none 0 0) []) := ⟨⟨rfl, Or.inl ⟨rfl, rfl⟩⟩, hr.fr⟩
  clear hr hh HN
  go_wp2_with fail
  go_loopg [6] (tot ls) (fun g s6 wx => ∃ (done : List Rw) (F : List (List Rw)) (hs : List Rt) (v : Value), tot F ≤ g ∧ done.length + tot F = tot ls ∧ done.length ≤ most.toNat ∧ Hid (Ro7 w wx s6 done) ∧ Hid (LI sv ls w wx B done F hs v))
  case atStart => exact ⟨[], ls, hs, v, Nat.le_refl _, by simp, by simp, HE, HI⟩
  case round =>
    obtain ⟨done, F, hs, v, hg, hdl, hdm, HEo, HLI⟩ := hrel
    clear HI HE
    have HLn := hid (len_any _ HLI.out.rs)
    have hhl := HLI.out.rs.len
    obtain ⟨ao, cap, rfl⟩ := HEo.out.shape
    by_cases hm : (done.length : Int) < most
    · cases hs with
      | nil =>
        have HM : Hid ((merged cmE ls).take most.toNat = done) := by
          show (merged cmE ls).take most.toNat = done
          rw [HLI.out.eq, merged_none cmE_cm HLI.out.hr.empty, List.append_nil, List.take_of_length_le hdm]
        go_wp2_with fail
        refine HLn.out.mono ?_
        rintro e w2 ⟨rfl, rfl⟩
        go_wp2_with fail
        go_ret
        refine ⟨_, rfl, ?_⟩
        rw [HM.out]
        exact HEo.out
      | cons x hs =>
        have t1 : (0 : Int) < ((x :: hs).length : Int) := by simp only [List.length_cons]; omega
        have HTk := hid (HLI.out.take HL.out)
        have HEk := hid (fun (W : World) (h1 : Kps wr W) (h2 : Fr w W (fun _ => False)) => (⟨own_kps HEo.out.1 h1 (by decide) (by decide), h2⟩ : Ro7 w W (.slice ao done.length cap) done))
        clear HLI HEo
        go_wp2_with fail
        refine HLn.out.mono ?_
        rintro e w2 ⟨rfl, rfl⟩
        go_wp2_with fail
        refine HTk.out.mono ?_
        rintro e w3 ⟨rfl, hk, v', F', hs', hli, hfr, htt⟩
        have HLI := hid hli
        have HEo : Hid (Ro7 w w3 (.slice ao done.length cap) done) := HEk.out _ hk hfr
        clear HTk HLn HEk hk hli hfr
        generalize hy : R.hd x = y at *
        clear hy
        unfold eV
        go_wp2_with (at_builtin; go_must (refine wpl_r7 (wb := w) rfl (.tmp 18) (.tmp 21) rfl _ done rfl y rfl ?c1 HEo.out ?_))
        case c1 => omega
        intro v2 w4 hE4 hg4
        have HE4 := hid hE4
        have HL4 := hid ((HLI.out.fr (alloc_fr w3 (.cells #[.int .i64 y.c.v, .string y.c.k, .int .i64 y.c.s, .int .i64 y.n, .int .i64 y.s, .int .i64 y.m, .int .i64 y.x] 54) _)).grown (HEo.out.fr (alloc_fr w3 (.cells #[.int .i64 y.c.v, .string y.c.k, .int .i64 y.c.s, .int .i64 y.n, .int .i64 y.s, .int .i64 y.m, .int .i64 y.x] 54) _)) hg4)
        clear hE4 hg4
        go_wp2_with fail
        go_roundg (gk - 1)
        case measure => omega
        case rel => exact ⟨done ++ [y], F', hs', v', by omega, by simp; omega, by simp; omega, HE4, HL4⟩
    · have HM : Hid ((merged cmE ls).take most.toNat = done) := by
        show (merged cmE ls).take most.toNat = done
        have e0 : most.toNat = done.length := by omega
        rw [HLI.out.eq, e0, List.take_left' rfl]
      go_wp2_with fail
      go_ret
      refine ⟨_, rfl, ?_⟩
      rw [HM.out]
      exact HEo.out
end Go.Proofs.Ytilgkfpicdmkkaa.M.W
