/- The law's at and same: walks. -/
import Derived.Test.YtcmniejffpoinaaCDo
import Derived.Deep.DeepMust
namespace Go.Proofs.Ytcmniejffpoinaa
open Go.RowKit

set_option maxHeartbeats 1000000 in
theorem same_true (v u : Value) (xs : List Int) (w : World) (hv : Is w v xs) (hu : Is w u xs) :
    Calls Try.prog 21 #[v, u] w fun e w' => e = .returned (.bool true) ∧ Fr w w' (fun _ => False) := by
  obtain ⟨ao, cap, rfl, hlen, hfit, hcell⟩ := id hv
  obtain ⟨bo, cbp, rfl, _, _, hcell2⟩ := id hu
  have HV := hid hv
  have HU := hid hu
  clear hv hu hcell hcell2 hfit
  go_enter Try.func21, Try.ntmps21
  go_wp2_with fail
  go_loopg [5] xs.length (fun g s5 wx => ∃ i : Nat, s5 = .int .i64 (i : Int) ∧ i + g = xs.length ∧ Hid (Fr w wx (fun _ => False)))
  case atStart => exact ⟨0, rfl, by omega, Fr.refl _ _⟩
  case round =>
    obtain ⟨i, rfl, hg, HF⟩ := hrel
    cases gk with
    | zero =>
      have t1 : ¬ (i : Int) < (xs.length : Int) := by omega
      clear hg
      go_wp2_with fail
      go_ret
      exact ⟨rfl, HF.out⟩
    | succ g =>
      have hi : i < xs.length := by omega
      have t1 : (i : Int) < (xs.length : Int) := by omega
      obtain ⟨ao', cap', e, _, _, hc1⟩ := HV.out.fr HF.out
      obtain ⟨b, off, e2, k1⟩ := hc1 (by intro e; subst e; simp at hi)
      cases e
      cases e2
      obtain ⟨bo', cbp', e, _, _, hc2⟩ := HU.out.fr HF.out
      obtain ⟨b2, off2, e2, k2⟩ := hc2 (by intro e; subst e; simp at hi)
      cases e
      cases e2
      have c1 := k1 i hi
      have c2 := k2 i hi
      clear hc1 hc2 k1 k2
      generalize xs.getD i 0 = x at *
      have HG := hid hg
      clear hg
      go_wp2_with fail
      go_region
      go_wp2_with fail
      go_roundg g
      case measure => omega
      case rel => exact ⟨i + 1, by go_num, by have := HG.out; omega, HF.out.drew⟩

/-- What at tells. -/
def tb (x : Vn) : List Int := [x.v, if x.t then 1 else 0]
def ats (L : List Vn) (xs : List Int) : List Int := xs.flatMap fun e => tb (atL L e)
theorem ats_snoc (L : List Vn) (xs : List Int) (i : Nat) (hi : i < xs.length) : ats L (xs.take (i + 1)) = ats L (xs.take i) ++ tb (atL L (xs.getD i 0)) := by
  unfold ats
  rw [take_snoc xs i hi, List.flatMap_append]
  simp
theorem ats_len (L : List Vn) (xs : List Int) : (ats L xs).length = 2 * xs.length := by
  induction xs with
  | nil => rfl
  | cons x xs ih =>
    show (tb (atL L x) ++ ats L xs).length = _
    rw [List.length_append, ih]
    simp [tb]
    omega
theorem ats_fits {L : List Vn} (hg : Good L) (xs : List Int) : ∀ y ∈ ats L xs, fits y := by
  intro y hy
  unfold ats at hy
  rw [List.mem_flatMap] at hy
  obtain ⟨e, _, he⟩ := hy
  simp only [tb, List.mem_cons, List.not_mem_nil, or_false] at he
  rcases he with rfl | rfl
  · exact (atL_fits hg e).1
  · unfold fits
    split <;> decide
theorem ats_congr {L L' : List Vn} {xs : List Int} (h : ∀ e ∈ xs, tell (atL L' e) = tell (atL L e)) : ats L' xs = ats L xs := by
  unfold ats
  induction xs with
  | nil => rfl
  | cons x xs ih =>
    have h1 := h x (by simp)
    simp only [tell, Prod.mk.injEq] at h1
    have hx : tb (atL L' x) = tb (atL L x) := by unfold tb; rw [h1.1, h1.2]
    simp only [List.flatMap_cons, hx]
    rw [ih (fun e he => h e (by simp [he]))]

/-- What stands in the rounds of at. -/
structure TI (w wx : World) (u : Value) (zs : List Int) : Prop where
  fr : Fr w wx (fun _ => False)
  own : wx.ownsRow w.heap.size 3 1 u zs.length (iv zs)
theorem TI.step {w wx wy : World} {u : Value} {zs : List Int} (h : TI w wx u zs) (hf : Fr wx wy (fun _ => False)) : TI w wy u zs := ⟨h.fr.trans hf, own_fr h.own hf (fun _ _ h => h)⟩
theorem TI.put {w wx wa wy : World} {u u' : Value} {zs news : List Int} (h : TI w wx u zs) (hf : Fr wx wa (fun _ => False)) (hg : wa.grownBy wy u.ownBlock) (ho : wy.ownsRow w.heap.size 3 1 u' (zs.length + news.length) (iv zs ++ iv news)) : TI w wy u' (zs ++ news) := by
  have ha := h.step hf
  have hfg : Fr wa wy (fun k => u.ownBlock = some k) := (Fr.refl _ _).grown hg (fun k _ e => e)
  exact ⟨ha.fr.trans2 hfg (fun k hk e => by have := (ha.own.lt k e).1; omega), by rw [List.length_append, iv_append]; exact ho⟩

set_option maxHeartbeats 2000000 in
theorem ats_any {base B : Nat} {v u : Value} {L : List Vn} {xs : List Int} (w : World) (h : Ch w base B v L) (hI : Is w u xs) (hxl : xs.length ≤ 100000) :
    Calls Try.prog 18 #[.pointer (some ⟨B, 0, none⟩), u] w fun e w' => ∃ z, e = .returned z ∧ w'.ownsRow w.heap.size 3 1 z (ats L xs).length (iv (ats L xs)) ∧ Fr w w' (fun _ => False) := by
  obtain ⟨i0, hi0, hz0, hz1, hz2⟩ := info_parts Try.info_int
  have HCh := hid h
  have HI := hid hI
  obtain ⟨ao, cap, rfl, _, _, _⟩ := hI
  clear h
  go_enter Try.func18, Try.ntmps18
  go_wp2_with fail
  go_loopg [5, 6] xs.length (fun g s5 s6 wx => ∃ (i : Nat) (zs : List Int), s6 = .int .i64 (i : Int) ∧ i + g = xs.length ∧ zs.length ≤ 200000 ∧ Hid (zs = ats L (xs.take i)) ∧ Hid (TI w wx s5 zs))
  case atStart => exact ⟨0, [], rfl, by omega, by simp, rfl, Fr.refl _ _, ⟨rfl, Or.inl ⟨rfl, rfl⟩⟩⟩
  case round =>
    obtain ⟨i, zs, rfl, hg, hzl, HZ, HT⟩ := hrel
    obtain ⟨ao5, cap5, rfl⟩ := own_nil_shape HT.out.own
    cases gk with
    | zero =>
      have t1 : ¬ (i : Int) < (xs.length : Int) := by omega
      have HE := hid (show i = xs.length by omega)
      clear hg
      go_wp2_with fail
      go_ret
      have h1 := HZ.out
      rw [HE.out, List.take_length] at h1
      subst h1
      exact ⟨_, rfl, HT.out.own, HT.out.fr⟩
    | succ g =>
      have hi : i < xs.length := by omega
      have t1 : (i : Int) < (xs.length : Int) := by omega
      have HG := hid hg
      have HSn := hid (ats_snoc L xs i hi)
      obtain ⟨ao', cap', e, _, _, hc1⟩ := HI.out.fr HT.out.fr
      obtain ⟨b, off, e2, k1⟩ := hc1 (by intro e; subst e; simp at hi)
      cases e
      cases e2
      have c1 := k1 i hi
      have hbl := World.block_lt_of_cell? wr _ c1
      dsimp only at hbl
      have hzl2 : zs.length + 2 ≤ 200000 := by
        have := HZ.out
        rw [this, ats_len, List.length_take]
        omega
      clear hc1 k1 hg hi
      generalize xs.getD i 0 = x at *
      have HA := hid (at_any x wr (HCh.out.step HT.out.fr))
      unfold tb at HSn
      generalize atL L x = y at *
      obtain ⟨ye, yt, yv⟩ := y
      dsimp only at *
      have hsz := HT.out.fr.size
      cases yt with
      | true =>
        go_wp2_with fail
        refine HA.out.mono ?_
        rintro r w1 ⟨rfl, hf1⟩
        have HT1 := hid (HT.out.step hf1)
        have hs1 := hf1.size
        clear hf1
        go_wp2_with (at_builtin; go_must (refine wpList_append_own_at _ rfl (.tmp 26) (.tmp 29) 38 rfl w.heap.size 3 i0 (.int .i64 0) 1 8 Try.underlying38 hi0 hz0 hz1 hz2 rfl (by decide) _ _ _ rfl (own_fr HT1.out.own (alloc_fr w1 _ (fun _ => False)) (fun _ _ h => h)) ⟨w1.heap.size, 0, none⟩ 2 2 [.int .i64 yv, .int .i64 1] rfl rfl (two_new _ _ _ _) ?c2 ?c3 ?c4 ?c5 ?_))
        case c2 => intro u hu; simp at hu; rcases hu with rfl | rfl <;> rfl
        case c3 => unfold maxLen; omega
        case c4 => omega
        case c5 => simp; omega
        intro u' w2 hown hgrow _ _
        have HT2 := hid (HT1.out.put (news := [yv, 1]) (alloc_fr w1 _ _) hgrow hown)
        clear hown hgrow
        go_wp2_with fail
        go_roundg g
        case measure => omega
        case rel => exact ⟨i + 1, zs ++ [yv, 1], by go_num, by have := HG.out; omega, by simp; omega, by show _ = _; rw [HSn.out, ← HZ.out]; rfl, HT2⟩
      | false =>
        go_wp2_with fail
        refine HA.out.mono ?_
        rintro r w1 ⟨rfl, hf1⟩
        have HT1 := hid (HT.out.step hf1)
        have hs1 := hf1.size
        clear hf1
        go_wp2_with (at_builtin; go_must (refine wpList_append_own_at _ rfl (.tmp 26) (.tmp 29) 38 rfl w.heap.size 3 i0 (.int .i64 0) 1 8 Try.underlying38 hi0 hz0 hz1 hz2 rfl (by decide) _ _ _ rfl (own_fr HT1.out.own (alloc_fr w1 _ (fun _ => False)) (fun _ _ h => h)) ⟨w1.heap.size, 0, none⟩ 2 2 [.int .i64 yv, .int .i64 0] rfl rfl (two_new _ _ _ _) ?d2 ?d3 ?d4 ?d5 ?_))
        case d2 => intro u hu; simp at hu; rcases hu with rfl | rfl <;> rfl
        case d3 => unfold maxLen; omega
        case d4 => omega
        case d5 => simp; omega
        intro u' w2 hown hgrow _ _
        have HT2 := hid (HT1.out.put (news := [yv, 0]) (alloc_fr w1 _ _) hgrow hown)
        clear hown hgrow
        go_wp2_with fail
        go_roundg g
        case measure => omega
        case rel => exact ⟨i + 1, zs ++ [yv, 0], by go_num, by have := HG.out; omega, by simp; omega, by show _ = _; rw [HSn.out, ← HZ.out]; rfl, HT2⟩
end Go.Proofs.Ytcmniejffpoinaa
