/- ChainBook: the walk. -/
import Derived.Test.YtcmniejffpoinabCBook
namespace Go.Proofs.Ytcmniejffpoinab
open Go.RowKit

theorem int_size : (Try.prog.info? 3).map (·.size) = some 1 := by kernel_rfl
theorem made_rowi (n : Nat) : madeCells #[Value.int .i64 0] n = (iv (List.replicate n 0)).toArray := by
  apply Array.ext'
  apply List.ext_getElem
  · simp [madeCells, iv]
  · intro i h1 h2
    simp [madeCells, Nat.mod_one, iv]
theorem copy_src {W : World} {ao : Option Addr} {n cap g : Nat} {xs : List Int} (h : Is W (.slice ao n cap) xs) : 0 < (iv xs).length → (some (⟨g, 0, none⟩ : Addr)) = some ⟨g, 0, none⟩ ∧ ∃ ad, ao = some ad ∧ ∀ j v, (iv xs)[j]? = some v → W.cell? (ad.add j) = some v := by
  intro hp
  obtain ⟨ao', cap', e, _, _, hc⟩ := h
  simp only [Value.slice.injEq] at e
  obtain ⟨rfl, _, rfl⟩ := e
  rw [iv_length] at hp
  obtain ⟨b, off, rfl, hck⟩ := hc (List.length_pos_iff.1 hp)
  refine ⟨rfl, _, rfl, fun j v hv => ?_⟩
  have hj : j < xs.length := by
    rcases Nat.lt_or_ge j xs.length with h | h
    · exact h
    · rw [List.getElem?_eq_none (by rw [iv_length]; exact h)] at hv
      cases hv
  rw [Addr.add_lit, hck j hj, ← hv, iv_get xs j hj]

/-- What the row holds before it is written over. -/
def orig (hs : List Int) (j : Nat) : Int := if j < hs.length then hs.getD j 0 else -9 - (j : Int)
structure BI (w wx : World) (B1 B2 N n4 : Nat) (v1 v2 : Value) (L1 L2 : List Vn) (zs : List Int) : Prop where
  d : D2 w wx B1 B2 v1 v2 L1 L2
  r : RI wx N zs
  len : zs.length = n4
  ft : ∀ x ∈ zs, fits x
  hN : w.heap.size ≤ N
theorem BI.set {w wx : World} {B1 B2 N n4 : Nat} {v1 v2 : Value} {L1 L2 : List Vn} {zs : List Int} (h : BI w wx B1 B2 N n4 v1 v2 L1 L2 zs) (j : Nat) {y : Int} (hy : fits y) : BI w (wx.setCell ⟨N, j, none⟩ (.int .i64 y)) B1 B2 N n4 v1 v2 L1 L2 (zs.set j y) :=
  ⟨h.d.store h.r h.hN ((Fr.refl wx (fun k => k = N)).setCell (p := ⟨N, j, none⟩) (fun _ => rfl) _), h.r.set j y, by rw [List.length_set]; exact h.len, set_fits h.ft j hy, h.hN⟩
theorem BI.step {w wx wy : World} {B1 B2 N n4 : Nat} {v1 v2 : Value} {L1 L2 : List Vn} {zs : List Int} (h : BI w wx B1 B2 N n4 v1 v2 L1 L2 zs) (hf : Fr wx wy (fun _ => False)) : BI w wy B1 B2 N n4 v1 v2 L1 L2 zs := ⟨h.d.step hf, h.r.fr hf (fun h => h), h.len, h.ft, h.hN⟩
theorem BI.one {w wx wy : World} {B1 B2 N n4 : Nat} {v1 v1' v2 : Value} {L1 L1' L2 : List Vn} {zs : List Int} (h : BI w wx B1 B2 N n4 v1 v2 L1 L2 zs) (hc : Ch wy w.heap.size B1 v1' L1') (hf : Fr wx wy (fun k => k = B1 ∨ v1.ownBlock = some k)) (hn : Nw wx v1 v1') : BI w wy B1 B2 N n4 v1' v2 L1' L2 zs := ⟨h.d.one hc hf hn, h.r.one h.d.c hf, h.len, h.ft, h.hN⟩
theorem BI.two {w wx wy : World} {B1 B2 N n4 : Nat} {v1 v2 v2' : Value} {L1 L2 L2' : List Vn} {zs : List Int} (h : BI w wx B1 B2 N n4 v1 v2 L1 L2 zs) (hc : Ch wy w.heap.size B2 v2' L2') (hf : Fr wx wy (fun k => k = B2 ∨ v2.ownBlock = some k)) (hn : Nw wx v2 v2') : BI w wy B1 B2 N n4 v1 v2' L1 L2' zs := ⟨h.d.two hc hf hn, h.r.one h.d.d hf, h.len, h.ft, h.hN⟩
theorem BI.facts {w wx : World} {B1 B2 N n4 : Nat} {v1 v2 : Value} {L1 L2 : List Vn} {zs : List Int} (h : BI w wx B1 B2 N n4 v1 v2 L1 L2 zs) (j : Nat) (hj : j < n4) : wx.cell? ⟨N, j, none⟩ = some (.int .i64 (zs.getD j 0)) ∧ wx.frozen? ⟨N, j, none⟩ = false ∧ N < wx.heap.size := ⟨h.r.cell j (by rw [h.len]; exact hj), h.r.free j, h.r.lt⟩
theorem orig_hs {hs zs : List Int} {n4 : Nat} (hl : zs.length = n4) (hn : n4 = hs.length + 4) (h : ∀ j, j < n4 → zs.getD j 0 = orig hs j) : zs.take hs.length = hs := by
  apply List.ext_getElem
  · rw [List.length_take]; omega
  · intro i h1 h2
    have h3 := h i (by omega)
    unfold orig at h3
    rw [if_pos h2] at h3
    simp only [List.getD, List.getElem?_eq_getElem h2, List.getElem?_eq_getElem (show i < zs.length by omega), Option.getD_some] at h3
    simpa using h3
theorem orig_fits {hs : List Int} {W : World} {v : Value} (h : Is W v hs) (j : Nat) (hj : j ≤ 1000) : fits (orig hs j) := by
  obtain ⟨_, _, _, _, hf, _⟩ := h
  unfold orig
  split
  · rename_i h1
    exact hf _ (by simp [List.getD, h1])
  · unfold fits
    omega
theorem fill_row {hs : List Int} {n4 : Nat} (hn : n4 = hs.length + 4) : splice (iv (List.replicate n4 0)) 0 (iv hs) = iv (hs ++ List.replicate 4 0) := by
  subst hn
  simp [splice, iv]
theorem getD_seti (l : List Int) (x : Int) (i j : Nat) (hi : i < l.length) : (l.set i x).getD j 0 = if j = i then x else l.getD j 0 := by
  by_cases h : j = i
  · subst h
    simp [List.getD, hi]
  · rw [if_neg h]
    simp [List.getD, Ne.symm h]

theorem nz_some (a : Addr) (n c : Nat) : Nz (.slice (some a) n c) := fun _ _ e => by simp at e
theorem int0_own (W : World) : (W.alloc (.cells #[] 3)).ownsRow W.heap.size 3 1 (.slice (some ⟨W.heap.size, 0, none⟩) 0 0) 0 [] := by
  have h := World.ownsRow_lit (size := 1) (e := 3) W #[] 0 (Nat.le_refl _) (by unfold maxLen; omega) (by simp)
  simpa using h
theorem app_fr {W W' : World} {cs : Array Value} (hg : (W.alloc (.cells cs 3)).grownBy W' (Value.slice (some ⟨W.heap.size, 0, none⟩) 0 0).ownBlock) : Fr W W' (fun _ => False) :=
  (alloc_fr W (.cells cs 3) (fun _ => False)).trans2 ((Fr.refl _ (fun k => k = W.heap.size)).grown hg (fun k _ e => by simpa [Value.ownBlock] using e.symm)) (fun k hk e => by omega)
theorem cods_fits {P : List Vn} (hg : Good P) : ∀ x ∈ cods P, fits x := by
  intro x hx
  simp only [cods, List.mem_map] at hx
  obtain ⟨y, hy, rfl⟩ := hx
  have := hg.1 y hy
  have h1 := this.1
  have h2 := this.2.1
  unfold cod codB fits
  split <;> omega
theorem own_beside {wx wy : World} {base b0 B : Nat} {u v : Value} {n : Nat} {xs : List Value} {L : List Vn} (h : wx.ownsRow b0 3 1 u n xs) (hc : Ch wx base B v L) (hf : Fr wx wy (fun k => k = B ∨ v.ownBlock = some k)) : wy.ownsRow b0 3 1 u n xs := by
  refine own_fr h hf (fun k hk e => ?_)
  rcases e with e | e
  · subst e
    exact own_ne h hc.cell (by decide) hk
  · exact own_apart hc.own h (by decide) k e hk
theorem Is.ft {W : World} {v : Value} {xs : List Int} (h : Is W v xs) : ∀ x ∈ xs, fits x := by
  obtain ⟨_, _, _, _, hf, _⟩ := h
  exact hf

set_option maxHeartbeats 16000000 in
set_option maxRecDepth 100000 in
theorem chainBook_walk {ev hv mv : Value} {es hs ms : List Int} (w : World) (hE : Is w ev es) (hH : Is w hv hs) (hM : Is w mv ms) (hnz : Nz hv) :
    Calls Try.prog 3 #[ev, hv, mv] w fun r w' => r = .returned (.bool true) ∧ Fr w w' (fun _ => False) := by
  have HE := hid hE
  have HH := hid hH
  have HM := hid hM
  obtain ⟨eo, ec, rfl, _⟩ := hE
  obtain ⟨ho, hc, rfl, _⟩ := hH
  obtain ⟨mo, mc, rfl, _⟩ := hM
  have HNz := hid hnz
  clear hnz
  go_enter Try.func3, Try.ntmps3
  go_wp2_with fail
  refine (known_any _).mono ?_
  rintro r w1 ⟨rfl, hf1⟩
  have HF1 := hid hf1
  clear hf1
  by_cases h3 : 300 < hs.length
  · have t1 : (300 : Int) < (hs.length : Int) := by omega
    go_wp2_with fail
    go_ret
    exact ⟨rfl, HF1.out⟩
  have t1 : ¬ (300 : Int) < (hs.length : Int) := by omega
  by_cases h4 : 300 < ms.length
  · have t2 : (300 : Int) < (ms.length : Int) := by omega
    go_wp2_with fail
    go_ret
    exact ⟨rfl, HF1.out⟩
  have t2 : ¬ (300 : Int) < (ms.length : Int) := by omega
  go_wp2_with fail
  refine (new_any _).mono ?_
  rintro r w2 ⟨rfl, hc2, hf2, hs2⟩
  have HC2 := hid (hc2 w.heap.size)
  have HF2 := hid (HF1.out.trans hf2)
  clear hc2 hf2
  go_wp2_with fail
  refine (new_any _).mono ?_
  rintro r w3 ⟨rfl, hc3, hf3, _⟩
  have HD0 : Hid (D2 w w3 w1.heap.size w2.heap.size (.slice none 0 0) (.slice none 0 0) [] []) := ⟨HF2.out.trans hf3, HC2.out.step hf3, hc3 _, by omega, fun k hk => by simp [Value.ownBlock] at hk, HF1.out.size, HF2.out.size⟩
  clear HC2 HF2 hc3 hf3 HF1 hs2
  generalize w1.heap.size = B1 at *
  generalize w2.heap.size = B2 at *
  go_wp2_with fail
  go_loopg [9, 10] (min es.length 200) (fun g s9 s10 wx => ∃ (i at' : Nat) (L : List Vn) (v1 v2 : Value), s9 = .int .i64 (at' : Int) ∧ s10 = .int .i64 (i : Int) ∧ i + g = min es.length 200 ∧ at' ≤ 5 * i ∧ L.length ≤ i ∧ Hid (D2 w wx B1 B2 v1 v2 L L))
  case atStart => exact ⟨0, 0, [], _, _, rfl, rfl, by omega, by omega, by simp, HD0⟩
  case round =>
    obtain ⟨i, at', L, v1, v2, rfl, rfl, hg, hat, hLl, HD⟩ := hrel
    clear HD0
    cases gk with
    | zero =>
      obtain ⟨n4, hn4⟩ : ∃ n4 : Nat, (hs.length : Int) + 4 = (n4 : Int) := ⟨hs.length + 4, by omega⟩
      have HN4 := hid (show n4 = hs.length + 4 by omega)
      rcases Nat.lt_or_ge i es.length with hx | hx
      · have t3 : (i : Int) < (es.length : Int) := by omega
        have t4 : ¬ (i : Int) < 200 := by omega
        clear hg hat HE
        have hmk := run_make_row' (P := Try.prog) 22 3 (.int .i64 0) 8 Try.underlying22 Try.info_int rfl .i64 .i64 n4 (by have := HN4.out; omega) (by have := HN4.out; omega) wr
        have hrw : (wr.alloc (.cells (madeCells #[Value.int .i64 0] n4) 3)).heap[wr.heap.size]? = some (.cells (iv (List.replicate n4 0)).toArray 3 (0, 0)) := by rw [heap_last _ _ _ rfl, made_rowi]
        go_wp2_with (refine wpList_copy_splice rfl (.tmp 71) (.tmp 72) 22 22 rfl 3 Try.underlying22 int_size _ _ n4 n4 hs.length hc rfl rfl wr.heap.size 0 (iv (List.replicate n4 0)) 3 hrw (iv hs) (by have := HN4.out; rw [iv_length]; exact (Nat.min_eq_left (by omega)).symm) (copy_src (HH.out.fr (HD.out.fr.alloc _))) (by have := HN4.out; simp [iv]; omega) (iv_one hs) wr.heap.size wr ((Below.refl _ wr).alloc (Nat.le_refl _) _) (Nat.le_refl _) ?_; intro w7 hr7 hb7)
        have HB7 : Hid (BI w w7 B1 B2 wr.heap.size n4 v1 v2 L L (hs ++ List.replicate 4 0)) := ⟨HD.out.step (Fr.ofBelow hb7), by
          have h1 := hr7.out
          rw [fill_row HN4.out] at h1
          exact h1, by rw [List.length_append, List.length_replicate]; exact HN4.out.symm, fun x hx => by
          rw [List.mem_append] at hx
          rcases hx with hx | hx
          · obtain ⟨_, _, _, _, hf, _⟩ := HH.out
            exact hf x hx
          · rw [List.eq_of_mem_replicate hx]
            unfold fits
            omega, HD.out.fr.size⟩
        have HO7 : Hid (∀ j, j < hs.length → (hs ++ List.replicate 4 0).getD j 0 = orig hs j) := fun j hj => by
          unfold orig
          rw [if_pos hj]
          simp [List.getD, List.getElem?_append_left hj]
        clear hr7 hb7 hmk hrw HD
        generalize hs ++ List.replicate 4 0 = zs7 at *
        have hn4b : n4 ≤ 304 := by have := HN4.out; omega
        have hn4c : hs.length ≤ n4 := by have := HN4.out; omega
        generalize wr.heap.size = N at *
        go_loopg [12] (n4 - hs.length) (fun g s12 wx => ∃ (k : Nat) (zs : List Int), s12 = .int .i64 (k : Int) ∧ hs.length ≤ k ∧ k + g = n4 ∧ Hid (BI w wx B1 B2 N n4 v1 v2 L L zs) ∧ Hid (∀ j, j < k → zs.getD j 0 = orig hs j))
        case atStart => exact ⟨hs.length, zs7, rfl, Nat.le_refl _, by omega, HB7, HO7⟩
        case round =>
          obtain ⟨k, zs, rfl, hk1, hg, HB, HO⟩ := hrel
          clear HB7 HO7
          cases gk with
          | succ g =>
            have t5 : (k : Int) < (n4 : Int) := by omega
            have HG := hid hg
            obtain ⟨f1, f2, f3⟩ := HB.out.facts k (by omega)
            clear hg
            generalize hu : zs.getD k 0 = u at *
            clear hu
            go_wp2_with fail
            go_roundg g
            case measure => omega
            case rel =>
              refine ⟨k + 1, zs.set k (-9 - (k : Int)), by go_num, by omega, by have := HG.out; omega, HB.out.set k (by unfold fits; omega), fun j hj => ?_⟩
              rw [getD_seti _ _ _ _ (by rw [HB.out.len]; omega)]
              by_cases hjk : j = k
              · rw [if_pos hjk]
                unfold orig
                rw [if_neg (by omega), hjk]
              · rw [if_neg hjk]
                exact HO.out j (by omega)
          | zero =>
            have t5 : ¬ (k : Int) < (n4 : Int) := by omega
            have HO2 : Hid (∀ j, j < n4 → zs.getD j 0 = orig hs j) := fun j hj => HO.out j (by omega)
            have HTk := hid (orig_hs HB.out.len HN4.out HO2.out)
            have HIa := hid (HB.out.r.is hs.length n4 (by rw [HB.out.len]; omega) (by rw [HB.out.len]; omega) HB.out.ft)
            rw [HTk.out] at HIa
            have t6 : (hs.length : Int) ≤ (n4 : Int) := by omega
            clear hg
            go_wp2_with fail
            refine (prune_any _ HB.out.d.c HIa.out).mono ?_
            rintro r w8 ⟨rfl, v1', hc8, hf8, hn8⟩
            have HB8 := hid (HB.out.one hc8 hf8 hn8)
            clear hc8 hf8 hn8 HB HIa HO HTk
            generalize hPe : pruneL hs L = P at *
            have HPe := hid hPe
            clear hPe
            go_wp2_with fail
            go_loopg [14] n4 (fun g s14 wx => ∃ (k : Nat) (zs : List Int), s14 = .int .i64 (k : Int) ∧ k + g = n4 ∧ Hid (BI w wx B1 B2 N n4 v1' v2 P L zs) ∧ Hid (∀ j, k ≤ j → j < n4 → zs.getD j 0 = orig hs j))
            case atStart => exact ⟨0, zs, rfl, by omega, HB8, fun j _ hj => HO2.out j hj⟩
            case round =>
              obtain ⟨k, zs, rfl, hg, HB, HO⟩ := hrel
              clear HB8 HO2
              cases gk with
              | zero =>
                have t7 : ¬ (k : Int) < (n4 : Int) := by omega
                have hF := HB.out.d.fr.size
                go_wp2_with (at_builtin; go_must (refine append_is rfl (.tmp 134) (.tmp 135) rfl wr.heap.size _ 0 [] rfl (int0_own wr) _ hs rfl (HH.out.fr (HB.out.d.fr.alloc _)) HNz.out (by omega) (by simp) ?_))
                intro u9 w9 hown9 hgrow9
                have hF9 := app_fr hgrow9
                have HB9 := hid (HB.out.step hF9)
                have HI9 := hid (own_is (zs := hs) (n := hs.length) (by simpa using hown9) HH.out.ft (by omega))
                clear hown9 hgrow9 hF9 HB HO hg
                go_wp2_with fail
                refine (prune_any _ HB9.out.d.d HI9.out).mono ?_
                rintro r w10 ⟨rfl, v2', hc10, hf10, hn10⟩
                rw [HPe.out] at hc10 ⊢
                have HBA := hid (HB9.out.two hc10 hf10 hn10)
                clear hc10 hf10 hn10 HB9 HI9
                go_wp2_with fail
                refine (told_any _ HBA.out.d.c).mono ?_
                rintro r W1 ⟨za, rfl, hoa, hba⟩
                have HBB := hid (HBA.out.step (Fr.ofBelow hba))
                have HOa := hid hoa
                obtain ⟨zo, zc, rfl⟩ := own_nil_shape hoa
                clear hoa hba
                go_wp2_with fail
                refine (told_any _ HBB.out.d.d).mono ?_
                rintro r W2 ⟨zb, rfl, hob, hbb⟩
                have HBC := hid (HBB.out.step (Fr.ofBelow hbb))
                have HIa := hid (own_is (own_fr HOa.out (Fr.ofBelow hbb : Fr W1 W2 (fun _ => False)) (fun _ _ h => h)) (cods_fits HBA.out.d.c.good) (by have := HBA.out.d.c.len; simp [cods]; omega))
                have HIb := hid (own_is hob (cods_fits HBA.out.d.c.good) (by have := HBA.out.d.c.len; simp [cods]; omega))
                obtain ⟨zo2, zc2, rfl⟩ := own_nil_shape hob
                clear hob hbb HOa
                go_wp2_with fail
                refine (even_true _ _ _ _ HIa.out HIb.out).mono ?_
                rintro r W3 ⟨rfl, hfe⟩
                have HBD := hid (HBC.out.step hfe)
                clear hfe HIa HIb HBA HBB HBC
                go_wp2_with fail
                go_loopg [15] (min n4 ms.length) (fun g s15 wx => ∃ (k : Nat) (zs : List Int), s15 = .int .i64 (k : Int) ∧ k + g = min n4 ms.length ∧ Hid (BI w wx B1 B2 N n4 v1' v2' P P zs))
                case atStart => exact ⟨0, zs, rfl, by omega, HBD⟩
                case round =>
                  obtain ⟨k, zs, rfl, hg, HB⟩ := hrel
                  clear HBD
                  cases gk with
                  | zero =>
                    rcases Nat.lt_or_ge k n4 with hx | hx
                    · have t9 : (k : Int) < (n4 : Int) := by omega
                      have t10 : ¬ (k : Int) < (ms.length : Int) := by omega
                      clear hg
                      have HIz := hid (HB.out.r.is n4 n4 (by rw [HB.out.len]; exact Nat.le_refl _) (by rw [HB.out.len]; omega) HB.out.ft)
                      rw [List.take_of_length_le (by rw [HB.out.len]; exact Nat.le_refl _)] at HIz
                      have hzl : zs.length ≤ 304 := by rw [HB.out.len]; omega
                      go_wp2_with (at_builtin; go_must (refine append_is rfl (.tmp 166) (.tmp 167) rfl wr.heap.size _ 0 [] rfl (int0_own wr) _ zs rfl (HIz.out.fr (alloc_fr wr _ _)) (nz_some _ _ _) (by omega) (by simp) ?_))
                      intro ub w20 hown20 hgrow20
                      have hF20 := app_fr hgrow20
                      have HB20 := hid (HB.out.step hF20)
                      have HIa20 := hid (HIz.out.fr hF20)
                      have HOb : Hid (w20.ownsRow wr.heap.size 3 1 ub zs.length (iv zs)) := by simpa [Hid] using hown20
                      obtain ⟨uo, uc, rfl⟩ := own_nil_shape HOb.out
                      clear hown20 hgrow20 hF20 HB HIz
                      go_wp2_with fail
                      refine (prune_any _ HB20.out.d.c HIa20.out).mono ?_
                      rintro r w21 ⟨rfl, v1'', hc21, hf21, hn21⟩
                      have HB21 := hid (HB20.out.one hc21 hf21 hn21)
                      have HOb21 := hid (own_beside HOb.out HB20.out.d.c hf21)
                      clear hc21 hf21 hn21 HB20 HIa20 HOb
                      go_wp2_with fail
                      refine (prune_any _ HB21.out.d.d (own_is HOb21.out HB21.out.ft (by omega))).mono ?_
                      rintro r w22 ⟨rfl, v2'', hc22, hf22, hn22⟩
                      have HBA := hid (HB21.out.two hc22 hf22 hn22)
                      have HOb22 := hid (own_beside HOb21.out HB21.out.d.d hf22)
                      clear hc22 hf22 hn22 HB21 HOb21
                      generalize pruneL zs P = P2 at *
                      go_wp2_with fail
                      refine (told_any _ HBA.out.d.c).mono ?_
                      rintro r W1 ⟨za, rfl, hoa, hba⟩
                      have HFa := hid (Fr.ofBelow (S := fun _ => False) hba)
                      have HBB := hid (HBA.out.step (Fr.ofBelow hba))
                      have HOa := hid hoa
                      obtain ⟨zo, zc, rfl⟩ := own_nil_shape hoa
                      clear hoa hba
                      go_wp2_with fail
                      refine (told_any _ HBB.out.d.d).mono ?_
                      rintro r W2 ⟨zb, rfl, hob, hbb⟩
                      have HFb := hid (HFa.out.trans (Fr.ofBelow (S := fun _ => False) hbb))
                      have HBC := hid (HBB.out.step (Fr.ofBelow hbb))
                      have HIa := hid (own_is (own_fr HOa.out (Fr.ofBelow hbb : Fr W1 W2 (fun _ => False)) (fun _ _ h => h)) (cods_fits HBA.out.d.c.good) (by have := HBA.out.d.c.len; simp [cods]; omega))
                      have HIb := hid (own_is hob (cods_fits HBA.out.d.c.good) (by have := HBA.out.d.c.len; simp [cods]; omega))
                      obtain ⟨zo2, zc2, rfl⟩ := own_nil_shape hob
                      clear hob hbb HOa
                      go_wp2_with fail
                      refine (even_true _ _ _ _ HIa.out HIb.out).mono ?_
                      rintro r W3 ⟨rfl, hfe⟩
                      have HBD := hid (HBC.out.step hfe)
                      have HFc := hid (HFb.out.trans hfe)
                      have HOb3 := hid (own_fr HOb22.out HFc.out (fun _ _ h => h))
                      have HIa3 := hid (HBD.out.r.is n4 n4 (by rw [HBD.out.len]; exact Nat.le_refl _) (by rw [HBD.out.len]; omega) HBD.out.ft)
                      rw [List.take_of_length_le (by rw [HBD.out.len]; exact Nat.le_refl _)] at HIa3
                      have HIb3 := hid (own_is HOb3.out HBD.out.ft (by omega))
                      clear hfe HIa HIb HBA HBB HBC HFa HFb HFc HOb22 HOb3
                      go_wp2_with fail
                      refine (even_true _ _ _ _ HIa3.out HIb3.out).mono ?_
                      rintro r W4 ⟨rfl, hf4⟩
                      have HF4 := hid (HBD.out.d.fr.trans hf4)
                      clear hf4 HIa3 HIb3 HBD
                      go_wp2_with fail
                      go_ret
                      exact ⟨rfl, HF4.out⟩
                    · have t9 : ¬ (k : Int) < (n4 : Int) := by omega
                      clear hg
                      have HIz := hid (HB.out.r.is n4 n4 (by rw [HB.out.len]; exact Nat.le_refl _) (by rw [HB.out.len]; omega) HB.out.ft)
                      rw [List.take_of_length_le (by rw [HB.out.len]; exact Nat.le_refl _)] at HIz
                      have hzl : zs.length ≤ 304 := by rw [HB.out.len]; omega
                      go_wp2_with (at_builtin; go_must (refine append_is rfl (.tmp 166) (.tmp 167) rfl wr.heap.size _ 0 [] rfl (int0_own wr) _ zs rfl (HIz.out.fr (alloc_fr wr _ _)) (nz_some _ _ _) (by omega) (by simp) ?_))
                      intro ub w20 hown20 hgrow20
                      have hF20 := app_fr hgrow20
                      have HB20 := hid (HB.out.step hF20)
                      have HIa20 := hid (HIz.out.fr hF20)
                      have HOb : Hid (w20.ownsRow wr.heap.size 3 1 ub zs.length (iv zs)) := by simpa [Hid] using hown20
                      obtain ⟨uo, uc, rfl⟩ := own_nil_shape HOb.out
                      clear hown20 hgrow20 hF20 HB HIz
                      go_wp2_with fail
                      refine (prune_any _ HB20.out.d.c HIa20.out).mono ?_
                      rintro r w21 ⟨rfl, v1'', hc21, hf21, hn21⟩
                      have HB21 := hid (HB20.out.one hc21 hf21 hn21)
                      have HOb21 := hid (own_beside HOb.out HB20.out.d.c hf21)
                      clear hc21 hf21 hn21 HB20 HIa20 HOb
                      go_wp2_with fail
                      refine (prune_any _ HB21.out.d.d (own_is HOb21.out HB21.out.ft (by omega))).mono ?_
                      rintro r w22 ⟨rfl, v2'', hc22, hf22, hn22⟩
                      have HBA := hid (HB21.out.two hc22 hf22 hn22)
                      have HOb22 := hid (own_beside HOb21.out HB21.out.d.d hf22)
                      clear hc22 hf22 hn22 HB21 HOb21
                      generalize pruneL zs P = P2 at *
                      go_wp2_with fail
                      refine (told_any _ HBA.out.d.c).mono ?_
                      rintro r W1 ⟨za, rfl, hoa, hba⟩
                      have HFa := hid (Fr.ofBelow (S := fun _ => False) hba)
                      have HBB := hid (HBA.out.step (Fr.ofBelow hba))
                      have HOa := hid hoa
                      obtain ⟨zo, zc, rfl⟩ := own_nil_shape hoa
                      clear hoa hba
                      go_wp2_with fail
                      refine (told_any _ HBB.out.d.d).mono ?_
                      rintro r W2 ⟨zb, rfl, hob, hbb⟩
                      have HFb := hid (HFa.out.trans (Fr.ofBelow (S := fun _ => False) hbb))
                      have HBC := hid (HBB.out.step (Fr.ofBelow hbb))
                      have HIa := hid (own_is (own_fr HOa.out (Fr.ofBelow hbb : Fr W1 W2 (fun _ => False)) (fun _ _ h => h)) (cods_fits HBA.out.d.c.good) (by have := HBA.out.d.c.len; simp [cods]; omega))
                      have HIb := hid (own_is hob (cods_fits HBA.out.d.c.good) (by have := HBA.out.d.c.len; simp [cods]; omega))
                      obtain ⟨zo2, zc2, rfl⟩ := own_nil_shape hob
                      clear hob hbb HOa
                      go_wp2_with fail
                      refine (even_true _ _ _ _ HIa.out HIb.out).mono ?_
                      rintro r W3 ⟨rfl, hfe⟩
                      have HBD := hid (HBC.out.step hfe)
                      have HFc := hid (HFb.out.trans hfe)
                      have HOb3 := hid (own_fr HOb22.out HFc.out (fun _ _ h => h))
                      have HIa3 := hid (HBD.out.r.is n4 n4 (by rw [HBD.out.len]; exact Nat.le_refl _) (by rw [HBD.out.len]; omega) HBD.out.ft)
                      rw [List.take_of_length_le (by rw [HBD.out.len]; exact Nat.le_refl _)] at HIa3
                      have HIb3 := hid (own_is HOb3.out HBD.out.ft (by omega))
                      clear hfe HIa HIb HBA HBB HBC HFa HFb HFc HOb22 HOb3
                      go_wp2_with fail
                      refine (even_true _ _ _ _ HIa3.out HIb3.out).mono ?_
                      rintro r W4 ⟨rfl, hf4⟩
                      have HF4 := hid (HBD.out.d.fr.trans hf4)
                      clear hf4 HIa3 HIb3 HBD
                      go_wp2_with fail
                      go_ret
                      exact ⟨rfl, HF4.out⟩
                  | succ g =>
                    have t9 : (k : Int) < (n4 : Int) := by omega
                    have t10 : (k : Int) < (ms.length : Int) := by omega
                    have hk : k < ms.length := by omega
                    have HG := hid hg
                    obtain ⟨f1, f2, f3⟩ := HB.out.facts k (by omega)
                    obtain ⟨ao', cap', e, _, hft, hc1⟩ := HM.out.fr HB.out.d.fr
                    obtain ⟨b, off, e2, k1⟩ := hc1 (by intro e; rw [e] at hk; simp at hk)
                    cases e
                    cases e2
                    have c1 := k1 k hk
                    have hbl := World.block_lt_of_cell? wr _ c1
                    dsimp only at hbl
                    have HFy := hid (hft (ms.getD k 0) (by simp [List.getD, hk]))
                    clear hc1 k1 hk hft hg
                    generalize ms.getD k 0 = y at *
                    generalize zs.getD k 0 = u at f1
                    go_wp2_with fail
                    go_roundg g
                    case measure => omega
                    case rel => exact ⟨k + 1, zs.set k y, by go_num, by have := HG.out; omega, HB.out.set k HFy.out⟩
              | succ g =>
                have t7 : (k : Int) < (n4 : Int) := by omega
                have HG := hid hg
                obtain ⟨f1, f2, f3⟩ := HB.out.facts k (by omega)
                rw [HO.out k (Nat.le_refl _) (by omega)] at f1
                clear hg
                have HNx := hid (fun (W : World) (h : BI w W B1 B2 N n4 v1' v2 P L (zs.set k 3)) => (show ∀ j, k + 1 ≤ j → j < n4 → (zs.set k 3).getD j 0 = orig hs j from fun j hj hj2 => by
                  rw [getD_seti _ _ _ _ (by rw [HB.out.len]; omega), if_neg (by omega)]
                  exact HO.out j (by omega) hj2))
                by_cases hk : k < hs.length
                · have t8 : decide ((k : Int) < (hs.length : Int)) = true := by simp; omega
                  have t8' : (k : Int) < (hs.length : Int) := by omega
                  have t9 : ((hs.length : Int) ≤ (k : Int)) = False := by simp; omega
                  obtain ⟨ao', cap', e, _, _, hc1⟩ := HH.out.fr HB.out.d.fr
                  obtain ⟨b, off, e2, k1⟩ := hc1 (by intro e; rw [e] at hk; simp at hk)
                  cases e
                  cases e2
                  have c1 := k1 k hk
                  unfold orig at f1
                  rw [if_pos hk] at f1
                  clear hc1 k1 hk
                  generalize hs.getD k 0 = y at *
                  go_wp2_with fail
                  go_quiet (fail)
                  go_wp2_with fail
                  go_roundg g
                  case measure => omega
                  case rel => exact ⟨k + 1, zs.set k 3, by go_num, by have := HG.out; omega, (HB.out.step (by first | exact (Fr.refl _ _).drewN _ | exact (Fr.refl _ _).drew)).set k (by unfold fits; omega), HNx.out _ ((HB.out.set k (by unfold fits; omega)))⟩
                · have t8 : ((k : Int) < (hs.length : Int)) = False := by simp; omega
                  have t10 : (hs.length : Int) ≤ (k : Int) := by omega
                  have hw9 : IntKind.i64.wrap (-9 - (k : Int)) = -9 - (k : Int) := wrap_fit (by unfold fits; omega)
                  unfold orig at f1
                  rw [if_neg hk] at f1
                  clear hk
                  go_wp2_with fail
                  go_quiet (fail)
                  go_wp2_with fail
                  go_roundg g
                  case measure => omega
                  case rel => exact ⟨k + 1, zs.set k 3, by go_num, by have := HG.out; omega, (HB.out.step (by first | exact (Fr.refl _ _).drewN _ | exact (Fr.refl _ _).drew)).set k (by unfold fits; omega), HNx.out _ ((HB.out.set k (by unfold fits; omega)))⟩
      · have t3 : ¬ (i : Int) < (es.length : Int) := by omega
        clear hg hat HE
        have hmk := run_make_row' (P := Try.prog) 22 3 (.int .i64 0) 8 Try.underlying22 Try.info_int rfl .i64 .i64 n4 (by have := HN4.out; omega) (by have := HN4.out; omega) wr
        have hrw : (wr.alloc (.cells (madeCells #[Value.int .i64 0] n4) 3)).heap[wr.heap.size]? = some (.cells (iv (List.replicate n4 0)).toArray 3 (0, 0)) := by rw [heap_last _ _ _ rfl, made_rowi]
        go_wp2_with (refine wpList_copy_splice rfl (.tmp 71) (.tmp 72) 22 22 rfl 3 Try.underlying22 int_size _ _ n4 n4 hs.length hc rfl rfl wr.heap.size 0 (iv (List.replicate n4 0)) 3 hrw (iv hs) (by have := HN4.out; rw [iv_length]; exact (Nat.min_eq_left (by omega)).symm) (copy_src (HH.out.fr (HD.out.fr.alloc _))) (by have := HN4.out; simp [iv]; omega) (iv_one hs) wr.heap.size wr ((Below.refl _ wr).alloc (Nat.le_refl _) _) (Nat.le_refl _) ?_; intro w7 hr7 hb7)
        have HB7 : Hid (BI w w7 B1 B2 wr.heap.size n4 v1 v2 L L (hs ++ List.replicate 4 0)) := ⟨HD.out.step (Fr.ofBelow hb7), by
          have h1 := hr7.out
          rw [fill_row HN4.out] at h1
          exact h1, by rw [List.length_append, List.length_replicate]; exact HN4.out.symm, fun x hx => by
          rw [List.mem_append] at hx
          rcases hx with hx | hx
          · obtain ⟨_, _, _, _, hf, _⟩ := HH.out
            exact hf x hx
          · rw [List.eq_of_mem_replicate hx]
            unfold fits
            omega, HD.out.fr.size⟩
        have HO7 : Hid (∀ j, j < hs.length → (hs ++ List.replicate 4 0).getD j 0 = orig hs j) := fun j hj => by
          unfold orig
          rw [if_pos hj]
          simp [List.getD, List.getElem?_append_left hj]
        clear hr7 hb7 hmk hrw HD
        generalize hs ++ List.replicate 4 0 = zs7 at *
        have hn4b : n4 ≤ 304 := by have := HN4.out; omega
        have hn4c : hs.length ≤ n4 := by have := HN4.out; omega
        generalize wr.heap.size = N at *
        go_loopg [12] (n4 - hs.length) (fun g s12 wx => ∃ (k : Nat) (zs : List Int), s12 = .int .i64 (k : Int) ∧ hs.length ≤ k ∧ k + g = n4 ∧ Hid (BI w wx B1 B2 N n4 v1 v2 L L zs) ∧ Hid (∀ j, j < k → zs.getD j 0 = orig hs j))
        case atStart => exact ⟨hs.length, zs7, rfl, Nat.le_refl _, by omega, HB7, HO7⟩
        case round =>
          obtain ⟨k, zs, rfl, hk1, hg, HB, HO⟩ := hrel
          clear HB7 HO7
          cases gk with
          | succ g =>
            have t5 : (k : Int) < (n4 : Int) := by omega
            have HG := hid hg
            obtain ⟨f1, f2, f3⟩ := HB.out.facts k (by omega)
            clear hg
            generalize hu : zs.getD k 0 = u at *
            clear hu
            go_wp2_with fail
            go_roundg g
            case measure => omega
            case rel =>
              refine ⟨k + 1, zs.set k (-9 - (k : Int)), by go_num, by omega, by have := HG.out; omega, HB.out.set k (by unfold fits; omega), fun j hj => ?_⟩
              rw [getD_seti _ _ _ _ (by rw [HB.out.len]; omega)]
              by_cases hjk : j = k
              · rw [if_pos hjk]
                unfold orig
                rw [if_neg (by omega), hjk]
              · rw [if_neg hjk]
                exact HO.out j (by omega)
          | zero =>
            have t5 : ¬ (k : Int) < (n4 : Int) := by omega
            have HO2 : Hid (∀ j, j < n4 → zs.getD j 0 = orig hs j) := fun j hj => HO.out j (by omega)
            have HTk := hid (orig_hs HB.out.len HN4.out HO2.out)
            have HIa := hid (HB.out.r.is hs.length n4 (by rw [HB.out.len]; omega) (by rw [HB.out.len]; omega) HB.out.ft)
            rw [HTk.out] at HIa
            have t6 : (hs.length : Int) ≤ (n4 : Int) := by omega
            clear hg
            go_wp2_with fail
            refine (prune_any _ HB.out.d.c HIa.out).mono ?_
            rintro r w8 ⟨rfl, v1', hc8, hf8, hn8⟩
            have HB8 := hid (HB.out.one hc8 hf8 hn8)
            clear hc8 hf8 hn8 HB HIa HO HTk
            generalize hPe : pruneL hs L = P at *
            have HPe := hid hPe
            clear hPe
            go_wp2_with fail
            go_loopg [14] n4 (fun g s14 wx => ∃ (k : Nat) (zs : List Int), s14 = .int .i64 (k : Int) ∧ k + g = n4 ∧ Hid (BI w wx B1 B2 N n4 v1' v2 P L zs) ∧ Hid (∀ j, k ≤ j → j < n4 → zs.getD j 0 = orig hs j))
            case atStart => exact ⟨0, zs, rfl, by omega, HB8, fun j _ hj => HO2.out j hj⟩
            case round =>
              obtain ⟨k, zs, rfl, hg, HB, HO⟩ := hrel
              clear HB8 HO2
              cases gk with
              | zero =>
                have t7 : ¬ (k : Int) < (n4 : Int) := by omega
                have hF := HB.out.d.fr.size
                go_wp2_with (at_builtin; go_must (refine append_is rfl (.tmp 134) (.tmp 135) rfl wr.heap.size _ 0 [] rfl (int0_own wr) _ hs rfl (HH.out.fr (HB.out.d.fr.alloc _)) HNz.out (by omega) (by simp) ?_))
                intro u9 w9 hown9 hgrow9
                have hF9 := app_fr hgrow9
                have HB9 := hid (HB.out.step hF9)
                have HI9 := hid (own_is (zs := hs) (n := hs.length) (by simpa using hown9) HH.out.ft (by omega))
                clear hown9 hgrow9 hF9 HB HO hg
                go_wp2_with fail
                refine (prune_any _ HB9.out.d.d HI9.out).mono ?_
                rintro r w10 ⟨rfl, v2', hc10, hf10, hn10⟩
                rw [HPe.out] at hc10 ⊢
                have HBA := hid (HB9.out.two hc10 hf10 hn10)
                clear hc10 hf10 hn10 HB9 HI9
                go_wp2_with fail
                refine (told_any _ HBA.out.d.c).mono ?_
                rintro r W1 ⟨za, rfl, hoa, hba⟩
                have HBB := hid (HBA.out.step (Fr.ofBelow hba))
                have HOa := hid hoa
                obtain ⟨zo, zc, rfl⟩ := own_nil_shape hoa
                clear hoa hba
                go_wp2_with fail
                refine (told_any _ HBB.out.d.d).mono ?_
                rintro r W2 ⟨zb, rfl, hob, hbb⟩
                have HBC := hid (HBB.out.step (Fr.ofBelow hbb))
                have HIa := hid (own_is (own_fr HOa.out (Fr.ofBelow hbb : Fr W1 W2 (fun _ => False)) (fun _ _ h => h)) (cods_fits HBA.out.d.c.good) (by have := HBA.out.d.c.len; simp [cods]; omega))
                have HIb := hid (own_is hob (cods_fits HBA.out.d.c.good) (by have := HBA.out.d.c.len; simp [cods]; omega))
                obtain ⟨zo2, zc2, rfl⟩ := own_nil_shape hob
                clear hob hbb HOa
                go_wp2_with fail
                refine (even_true _ _ _ _ HIa.out HIb.out).mono ?_
                rintro r W3 ⟨rfl, hfe⟩
                have HBD := hid (HBC.out.step hfe)
                clear hfe HIa HIb HBA HBB HBC
                go_wp2_with fail
                go_loopg [15] (min n4 ms.length) (fun g s15 wx => ∃ (k : Nat) (zs : List Int), s15 = .int .i64 (k : Int) ∧ k + g = min n4 ms.length ∧ Hid (BI w wx B1 B2 N n4 v1' v2' P P zs))
                case atStart => exact ⟨0, zs, rfl, by omega, HBD⟩
                case round =>
                  obtain ⟨k, zs, rfl, hg, HB⟩ := hrel
                  clear HBD
                  cases gk with
                  | zero =>
                    rcases Nat.lt_or_ge k n4 with hx | hx
                    · have t9 : (k : Int) < (n4 : Int) := by omega
                      have t10 : ¬ (k : Int) < (ms.length : Int) := by omega
                      clear hg
                      have HIz := hid (HB.out.r.is n4 n4 (by rw [HB.out.len]; exact Nat.le_refl _) (by rw [HB.out.len]; omega) HB.out.ft)
                      rw [List.take_of_length_le (by rw [HB.out.len]; exact Nat.le_refl _)] at HIz
                      have hzl : zs.length ≤ 304 := by rw [HB.out.len]; omega
                      go_wp2_with (at_builtin; go_must (refine append_is rfl (.tmp 166) (.tmp 167) rfl wr.heap.size _ 0 [] rfl (int0_own wr) _ zs rfl (HIz.out.fr (alloc_fr wr _ _)) (nz_some _ _ _) (by omega) (by simp) ?_))
                      intro ub w20 hown20 hgrow20
                      have hF20 := app_fr hgrow20
                      have HB20 := hid (HB.out.step hF20)
                      have HIa20 := hid (HIz.out.fr hF20)
                      have HOb : Hid (w20.ownsRow wr.heap.size 3 1 ub zs.length (iv zs)) := by simpa [Hid] using hown20
                      obtain ⟨uo, uc, rfl⟩ := own_nil_shape HOb.out
                      clear hown20 hgrow20 hF20 HB HIz
                      go_wp2_with fail
                      refine (prune_any _ HB20.out.d.c HIa20.out).mono ?_
                      rintro r w21 ⟨rfl, v1'', hc21, hf21, hn21⟩
                      have HB21 := hid (HB20.out.one hc21 hf21 hn21)
                      have HOb21 := hid (own_beside HOb.out HB20.out.d.c hf21)
                      clear hc21 hf21 hn21 HB20 HIa20 HOb
                      go_wp2_with fail
                      refine (prune_any _ HB21.out.d.d (own_is HOb21.out HB21.out.ft (by omega))).mono ?_
                      rintro r w22 ⟨rfl, v2'', hc22, hf22, hn22⟩
                      have HBA := hid (HB21.out.two hc22 hf22 hn22)
                      have HOb22 := hid (own_beside HOb21.out HB21.out.d.d hf22)
                      clear hc22 hf22 hn22 HB21 HOb21
                      generalize pruneL zs P = P2 at *
                      go_wp2_with fail
                      refine (told_any _ HBA.out.d.c).mono ?_
                      rintro r W1 ⟨za, rfl, hoa, hba⟩
                      have HFa := hid (Fr.ofBelow (S := fun _ => False) hba)
                      have HBB := hid (HBA.out.step (Fr.ofBelow hba))
                      have HOa := hid hoa
                      obtain ⟨zo, zc, rfl⟩ := own_nil_shape hoa
                      clear hoa hba
                      go_wp2_with fail
                      refine (told_any _ HBB.out.d.d).mono ?_
                      rintro r W2 ⟨zb, rfl, hob, hbb⟩
                      have HFb := hid (HFa.out.trans (Fr.ofBelow (S := fun _ => False) hbb))
                      have HBC := hid (HBB.out.step (Fr.ofBelow hbb))
                      have HIa := hid (own_is (own_fr HOa.out (Fr.ofBelow hbb : Fr W1 W2 (fun _ => False)) (fun _ _ h => h)) (cods_fits HBA.out.d.c.good) (by have := HBA.out.d.c.len; simp [cods]; omega))
                      have HIb := hid (own_is hob (cods_fits HBA.out.d.c.good) (by have := HBA.out.d.c.len; simp [cods]; omega))
                      obtain ⟨zo2, zc2, rfl⟩ := own_nil_shape hob
                      clear hob hbb HOa
                      go_wp2_with fail
                      refine (even_true _ _ _ _ HIa.out HIb.out).mono ?_
                      rintro r W3 ⟨rfl, hfe⟩
                      have HBD := hid (HBC.out.step hfe)
                      have HFc := hid (HFb.out.trans hfe)
                      have HOb3 := hid (own_fr HOb22.out HFc.out (fun _ _ h => h))
                      have HIa3 := hid (HBD.out.r.is n4 n4 (by rw [HBD.out.len]; exact Nat.le_refl _) (by rw [HBD.out.len]; omega) HBD.out.ft)
                      rw [List.take_of_length_le (by rw [HBD.out.len]; exact Nat.le_refl _)] at HIa3
                      have HIb3 := hid (own_is HOb3.out HBD.out.ft (by omega))
                      clear hfe HIa HIb HBA HBB HBC HFa HFb HFc HOb22 HOb3
                      go_wp2_with fail
                      refine (even_true _ _ _ _ HIa3.out HIb3.out).mono ?_
                      rintro r W4 ⟨rfl, hf4⟩
                      have HF4 := hid (HBD.out.d.fr.trans hf4)
                      clear hf4 HIa3 HIb3 HBD
                      go_wp2_with fail
                      go_ret
                      exact ⟨rfl, HF4.out⟩
                    · have t9 : ¬ (k : Int) < (n4 : Int) := by omega
                      clear hg
                      have HIz := hid (HB.out.r.is n4 n4 (by rw [HB.out.len]; exact Nat.le_refl _) (by rw [HB.out.len]; omega) HB.out.ft)
                      rw [List.take_of_length_le (by rw [HB.out.len]; exact Nat.le_refl _)] at HIz
                      have hzl : zs.length ≤ 304 := by rw [HB.out.len]; omega
                      go_wp2_with (at_builtin; go_must (refine append_is rfl (.tmp 166) (.tmp 167) rfl wr.heap.size _ 0 [] rfl (int0_own wr) _ zs rfl (HIz.out.fr (alloc_fr wr _ _)) (nz_some _ _ _) (by omega) (by simp) ?_))
                      intro ub w20 hown20 hgrow20
                      have hF20 := app_fr hgrow20
                      have HB20 := hid (HB.out.step hF20)
                      have HIa20 := hid (HIz.out.fr hF20)
                      have HOb : Hid (w20.ownsRow wr.heap.size 3 1 ub zs.length (iv zs)) := by simpa [Hid] using hown20
                      obtain ⟨uo, uc, rfl⟩ := own_nil_shape HOb.out
                      clear hown20 hgrow20 hF20 HB HIz
                      go_wp2_with fail
                      refine (prune_any _ HB20.out.d.c HIa20.out).mono ?_
                      rintro r w21 ⟨rfl, v1'', hc21, hf21, hn21⟩
                      have HB21 := hid (HB20.out.one hc21 hf21 hn21)
                      have HOb21 := hid (own_beside HOb.out HB20.out.d.c hf21)
                      clear hc21 hf21 hn21 HB20 HIa20 HOb
                      go_wp2_with fail
                      refine (prune_any _ HB21.out.d.d (own_is HOb21.out HB21.out.ft (by omega))).mono ?_
                      rintro r w22 ⟨rfl, v2'', hc22, hf22, hn22⟩
                      have HBA := hid (HB21.out.two hc22 hf22 hn22)
                      have HOb22 := hid (own_beside HOb21.out HB21.out.d.d hf22)
                      clear hc22 hf22 hn22 HB21 HOb21
                      generalize pruneL zs P = P2 at *
                      go_wp2_with fail
                      refine (told_any _ HBA.out.d.c).mono ?_
                      rintro r W1 ⟨za, rfl, hoa, hba⟩
                      have HFa := hid (Fr.ofBelow (S := fun _ => False) hba)
                      have HBB := hid (HBA.out.step (Fr.ofBelow hba))
                      have HOa := hid hoa
                      obtain ⟨zo, zc, rfl⟩ := own_nil_shape hoa
                      clear hoa hba
                      go_wp2_with fail
                      refine (told_any _ HBB.out.d.d).mono ?_
                      rintro r W2 ⟨zb, rfl, hob, hbb⟩
                      have HFb := hid (HFa.out.trans (Fr.ofBelow (S := fun _ => False) hbb))
                      have HBC := hid (HBB.out.step (Fr.ofBelow hbb))
                      have HIa := hid (own_is (own_fr HOa.out (Fr.ofBelow hbb : Fr W1 W2 (fun _ => False)) (fun _ _ h => h)) (cods_fits HBA.out.d.c.good) (by have := HBA.out.d.c.len; simp [cods]; omega))
                      have HIb := hid (own_is hob (cods_fits HBA.out.d.c.good) (by have := HBA.out.d.c.len; simp [cods]; omega))
                      obtain ⟨zo2, zc2, rfl⟩ := own_nil_shape hob
                      clear hob hbb HOa
                      go_wp2_with fail
                      refine (even_true _ _ _ _ HIa.out HIb.out).mono ?_
                      rintro r W3 ⟨rfl, hfe⟩
                      have HBD := hid (HBC.out.step hfe)
                      have HFc := hid (HFb.out.trans hfe)
                      have HOb3 := hid (own_fr HOb22.out HFc.out (fun _ _ h => h))
                      have HIa3 := hid (HBD.out.r.is n4 n4 (by rw [HBD.out.len]; exact Nat.le_refl _) (by rw [HBD.out.len]; omega) HBD.out.ft)
                      rw [List.take_of_length_le (by rw [HBD.out.len]; exact Nat.le_refl _)] at HIa3
                      have HIb3 := hid (own_is HOb3.out HBD.out.ft (by omega))
                      clear hfe HIa HIb HBA HBB HBC HFa HFb HFc HOb22 HOb3
                      go_wp2_with fail
                      refine (even_true _ _ _ _ HIa3.out HIb3.out).mono ?_
                      rintro r W4 ⟨rfl, hf4⟩
                      have HF4 := hid (HBD.out.d.fr.trans hf4)
                      clear hf4 HIa3 HIb3 HBD
                      go_wp2_with fail
                      go_ret
                      exact ⟨rfl, HF4.out⟩
                  | succ g =>
                    have t9 : (k : Int) < (n4 : Int) := by omega
                    have t10 : (k : Int) < (ms.length : Int) := by omega
                    have hk : k < ms.length := by omega
                    have HG := hid hg
                    obtain ⟨f1, f2, f3⟩ := HB.out.facts k (by omega)
                    obtain ⟨ao', cap', e, _, hft, hc1⟩ := HM.out.fr HB.out.d.fr
                    obtain ⟨b, off, e2, k1⟩ := hc1 (by intro e; rw [e] at hk; simp at hk)
                    cases e
                    cases e2
                    have c1 := k1 k hk
                    have hbl := World.block_lt_of_cell? wr _ c1
                    dsimp only at hbl
                    have HFy := hid (hft (ms.getD k 0) (by simp [List.getD, hk]))
                    clear hc1 k1 hk hft hg
                    generalize ms.getD k 0 = y at *
                    generalize zs.getD k 0 = u at f1
                    go_wp2_with fail
                    go_roundg g
                    case measure => omega
                    case rel => exact ⟨k + 1, zs.set k y, by go_num, by have := HG.out; omega, HB.out.set k HFy.out⟩
              | succ g =>
                have t7 : (k : Int) < (n4 : Int) := by omega
                have HG := hid hg
                obtain ⟨f1, f2, f3⟩ := HB.out.facts k (by omega)
                rw [HO.out k (Nat.le_refl _) (by omega)] at f1
                clear hg
                have HNx := hid (fun (W : World) (h : BI w W B1 B2 N n4 v1' v2 P L (zs.set k 3)) => (show ∀ j, k + 1 ≤ j → j < n4 → (zs.set k 3).getD j 0 = orig hs j from fun j hj hj2 => by
                  rw [getD_seti _ _ _ _ (by rw [HB.out.len]; omega), if_neg (by omega)]
                  exact HO.out j (by omega) hj2))
                by_cases hk : k < hs.length
                · have t8 : decide ((k : Int) < (hs.length : Int)) = true := by simp; omega
                  have t8' : (k : Int) < (hs.length : Int) := by omega
                  have t9 : ((hs.length : Int) ≤ (k : Int)) = False := by simp; omega
                  obtain ⟨ao', cap', e, _, _, hc1⟩ := HH.out.fr HB.out.d.fr
                  obtain ⟨b, off, e2, k1⟩ := hc1 (by intro e; rw [e] at hk; simp at hk)
                  cases e
                  cases e2
                  have c1 := k1 k hk
                  unfold orig at f1
                  rw [if_pos hk] at f1
                  clear hc1 k1 hk
                  generalize hs.getD k 0 = y at *
                  go_wp2_with fail
                  go_quiet (fail)
                  go_wp2_with fail
                  go_roundg g
                  case measure => omega
                  case rel => exact ⟨k + 1, zs.set k 3, by go_num, by have := HG.out; omega, (HB.out.step (by first | exact (Fr.refl _ _).drewN _ | exact (Fr.refl _ _).drew)).set k (by unfold fits; omega), HNx.out _ ((HB.out.set k (by unfold fits; omega)))⟩
                · have t8 : ((k : Int) < (hs.length : Int)) = False := by simp; omega
                  have t10 : (hs.length : Int) ≤ (k : Int) := by omega
                  have hw9 : IntKind.i64.wrap (-9 - (k : Int)) = -9 - (k : Int) := wrap_fit (by unfold fits; omega)
                  unfold orig at f1
                  rw [if_neg hk] at f1
                  clear hk
                  go_wp2_with fail
                  go_quiet (fail)
                  go_wp2_with fail
                  go_roundg g
                  case measure => omega
                  case rel => exact ⟨k + 1, zs.set k 3, by go_num, by have := HG.out; omega, (HB.out.step (by first | exact (Fr.refl _ _).drewN _ | exact (Fr.refl _ _).drew)).set k (by unfold fits; omega), HNx.out _ ((HB.out.set k (by unfold fits; omega)))⟩
    | succ g =>
      have hi : i < es.length := by omega
      have t3 : (i : Int) < (es.length : Int) := by omega
      have t4 : (i : Int) < 200 := by omega
      have HG := hid hg
      obtain ⟨ao', cap', e, _, _, hc1⟩ := HE.out.fr HD.out.fr
      obtain ⟨b, off, e2, k1⟩ := hc1 (by intro e; rw [e] at hi; simp at hi)
      cases e
      cases e2
      have c1 := k1 i hi
      have hbl := World.block_lt_of_cell? wr _ c1
      dsimp only at hbl
      clear hc1 k1 hg
      generalize es.getD i 0 = y at *
      obtain ⟨p, hp, hpb⟩ : ∃ p : Nat, y % 5 = (p : Int) ∧ (p : Int) < 5 := ⟨(y % 5).toNat, by omega, by omega⟩
      have hsz := HD.out.fr.size
      go_wp2_with fail
      refine (within_any y 5 (by decide) (by decide) _).mono ?_
      rintro r w4 ⟨rfl, rfl⟩
      rw [hp]
      by_cases h43 : y.tmod 4 = 3
      · have t5 : (y.tmod 4 == 3) = true := by simpa using h43
        go_wp2_with fail
        refine (kill_any ((at' : Int) + 1 + (p : Int)) _ HD.out.c (by omega) hsz).mono ?_
        rintro r w5 ⟨rfl, v1', hc5, hf5, hn5⟩
        have HD5 := hid (HD.out.one hc5 hf5 hn5)
        have hs5 := hf5.size
        clear hc5 hf5 hn5
        go_wp2_with fail
        refine (kill_any ((at' : Int) + 1 + (p : Int)) _ HD5.out.d (by omega) (by omega)).mono ?_
        rintro r w6 ⟨rfl, v2', hc6, hf6, hn6⟩
        have HD6 := hid (HD5.out.two hc6 hf6 hn6)
        clear hc6 hf6 hn6
        have hkl := killL_le L ((at' : Int) + 1 + (p : Int))
        go_wp2_with fail
        go_roundg g
        case measure => omega
        case rel => exact ⟨i + 1, at' + 1 + p, _, _, _, by go_num, by go_num, by have := HG.out; omega, by omega, by omega, HD6⟩
      · have t5 : (y.tmod 4 == 3) = false := by simpa using h43
        go_wp2_with fail
        refine (put_any ((at' : Int) + 1 + (p : Int)) (i : Int) _ HD.out.c (by unfold fits; omega) (by omega) hsz).mono ?_
        rintro r w5 ⟨rfl, v1', hc5, hf5, hn5⟩
        have HD5 := hid (HD.out.one hc5 hf5 hn5)
        have hs5 := hf5.size
        clear hc5 hf5 hn5
        go_wp2_with fail
        refine (put_any ((at' : Int) + 1 + (p : Int)) (i : Int) _ HD5.out.d (by unfold fits; omega) (by omega) (by omega)).mono ?_
        rintro r w6 ⟨rfl, v2', hc6, hf6, hn6⟩
        have HD6 := hid (HD5.out.two hc6 hf6 hn6)
        clear hc6 hf6 hn6
        have hkl := putL_le L ((at' : Int) + 1 + (p : Int)) (i : Int)
        go_wp2_with fail
        go_roundg g
        case measure => omega
        case rel => exact ⟨i + 1, at' + 1 + p, _, _, _, by go_num, by go_num, by have := HG.out; omega, by omega, by omega, HD6⟩
end Go.Proofs.Ytcmniejffpoinab
