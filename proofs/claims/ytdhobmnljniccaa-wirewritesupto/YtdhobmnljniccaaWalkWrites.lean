/- WireWrites: the walk. -/
import Derived.Test.YtdhobmnljniccaaTold
import Derived.Test.YtdhobmnljniccaaKept
import Derived.Deep.RegionWith
import Derived.Deep.DrawnRows
import Derived.Deep.DeepCutAuto
import Derived.Deep.RegionHeld
namespace Go.Proofs.Ytdhobmnljniccaa
open Go.RowKit
attribute [local go_sem ↓] Go.wp_at_zero Go.wp_at_succ

theorem convW {W : World} {v : Value} {xs : List Nat} (h : Bs W v xs) : (convert 27 9 v).run Try.prog W = .ok (.string (str8 xs)) W :=
  run_str8 Try.underlying27 Try.underlying5 Try.underlying9 h

/-- The Writer and the bytes, and the second answer, which stays. -/
structure WS (w : World) (v bv vy : Value) (xs zs bs : List Nat) (wx : World) : Prop where
  tw : TW w v bv zs bs wx
  oy : wx.ownsRow w.heap.size 5 1 vy xs.length (by8 xs)
  ay : ∀ k, vy.ownBlock = some k → v.ownBlock ≠ some k ∧ bv.ownBlock ≠ some k

theorem WS.none {w : World} {v bv vy : Value} {xs zs bs : List Nat} {wx w' : World} (h : WS w v bv vy xs zs bs wx) (hf : Fr wx w' (fun _ => False)) : WS w v bv vy xs zs bs w' := ⟨h.tw.none hf, own_fr h.oy hf (fun _ _ h => h), h.ay⟩
theorem WS.yN {w : World} {v bv vy : Value} {xs zs bs : List Nat} {wx : World} (h : WS w v bv vy xs zs bs wx) : vy.ownBlock ≠ some w.heap.size := own_ne h.oy h.tw.wr.cell (by decide)
theorem WS.w {w : World} {v bv vy v' : Value} {xs zs bs ys : List Nat} {wx w' : World} (h : WS w v bv vy xs zs bs wx) (hw : Wr 64 5 w' w.heap.size w.heap.size v' ys) (hf : Fr wx w' (fun k => k = w.heap.size ∨ v.ownBlock = some k)) (hn : Nw wx v v') : WS w v' bv vy xs ys bs w' := by
  refine ⟨h.tw.w hw hf hn, own_fr h.oy hf (fun k hk s => ?_), fun k hk => ⟨fun e => ?_, (h.ay k hk).2⟩⟩
  · rcases s with s | s
    · exact h.yN (by rw [← s]; exact hk)
    · exact (h.ay k hk).1 s
  · rcases hn k e with s | s
    · exact (h.ay k hk).1 s
    · have := (h.oy.lt k hk).2
      omega
theorem WS.b {w : World} {v bv vy bv' : Value} {xs zs bs ys : List Nat} {wx w' : World} (h : WS w v bv vy xs zs bs wx) (ho : w'.ownsRow w.heap.size 5 1 bv' ys.length (by8 ys)) (hf : Fr wx w' (fun k => bv.ownBlock = some k)) (hn : Nw wx bv bv') : WS w v bv' vy xs zs ys w' := by
  refine ⟨h.tw.b ho hf hn, own_fr h.oy hf (fun k hk s => (h.ay k hk).2 s), fun k hk => ⟨(h.ay k hk).1, fun e => ?_⟩⟩
  rcases hn k e with s | s
  · exact (h.ay k hk).2 s
  · have := (h.oy.lt k hk).2
    omega
theorem bs_front {w : World} {base : Nat} {e : TypeId} {ao : Option Addr} {cap : Nat} {xs zs : List Nat} (h : w.ownsRow base e 1 (.slice ao (xs ++ zs).length cap) (xs ++ zs).length (by8 (xs ++ zs))) : Bs w (.slice ao xs.length cap) xs := by
  rcases own_bs h with ⟨e1, e2⟩ | ⟨a, c, e1, hc⟩
  · obtain ⟨rfl, rfl⟩ := List.append_eq_nil_iff.1 e2
    simp at e1
    rw [e1.1, e1.2]
    exact Or.inl ⟨rfl, rfl⟩
  · simp only [Value.slice.injEq] at e1
    refine Or.inr ⟨a, cap, by rw [e1.1], fun j u hu => hc j u ?_⟩
    rw [by8_append, List.getElem?_append_left (List.getElem?_eq_some_iff.1 hu).1]
    exact hu

set_option maxHeartbeats 2000000 in
set_option maxRecDepth 100000 in
theorem writes_walk (lv mv : Value) (cs ms : List CallV) (w : World) (hl : Cls w lv cs) (hm : Cls w mv ms) :
    Calls Try.prog 4 #[lv, mv] w fun e w' => e = .returned (.bool true) ∧ Below w.heap.size w w' := by
  obtain ⟨mao, mcap, rfl, hml, hmf, hmc⟩ := hm
  have HMC := hidR hmc
  have HMF := hidR hmf
  have HL := hidR hl
  obtain ⟨lao, lcap, rfl, hlr⟩ := hl
  clear hlr
  clear hmc hmf
  go_enter Try.func4, Try.ntmps4
  go_wp2_with fail
  refine (told_any _ cs w HL.out).mono ?_
  rintro e w1 ⟨v, bv, xs, rfl, ht, hxl⟩
  have HT := hidR ht
  clear ht
  obtain ⟨aob, capb, rfl⟩ := own_nil_shape HT.out.own
  have hs1 := HT.out.below.size
  go_wp2_with fail
  refine (bytes_any w.heap.size w.heap.size v xs w1 HT.out.wr (by omega)).mono ?_
  rintro e w2 ⟨vx, rfl, hox, hfx⟩
  have HT2 := hidR (HT.out.none hfx)
  have HOX := hidR hox
  have hs2 := hfx.size
  obtain ⟨aox, capx, rfl⟩ := own_nil_shape hox
  clear hox hfx
  go_wp2_with fail
  refine (bytes_any w.heap.size w.heap.size v xs w2 HT2.out.wr (by omega)).mono ?_
  rintro e w3 ⟨vy, rfl, hoy, hfy⟩
  obtain ⟨aoy, capy, rfl⟩ := own_nil_shape hoy
  have HS3 : Hid (WS w v (.slice aob xs.length capb) (.slice aoy xs.length capy) xs xs xs w3) := ⟨HT2.out.none hfy, own_mono hoy (by omega), fun k hk => by
    have h0 := (hoy.lt k hk).1
    exact ⟨fun e => by have := (HT2.out.wr.own.lt k e).2; omega, fun e => by have := (HT2.out.own.lt k e).2; omega⟩⟩
  have HOX3 := hidR (own_fr HOX.out hfy (fun _ _ h => h))
  have HX3 : Hid (∀ k, (Value.slice aox xs.length capx).ownBlock = some k → w.heap.size ≤ k ∧ k ≠ w.heap.size ∧ v.ownBlock ≠ some k ∧ (Value.slice aob xs.length capb).ownBlock ≠ some k ∧ (Value.slice aoy xs.length capy).ownBlock ≠ some k) := fun k hk => by
    have h0 := HOX.out.lt k hk
    have hN := lt_of_block HT.out.wr.cell
    exact ⟨by omega, by omega, fun e => by have := (HT.out.wr.own.lt k e).2; omega, fun e => by have := (HT.out.own.lt k e).2; omega, fun e => by have := (hoy.lt k e).1; omega⟩
  have hc1 := convW (own_bs HOX3.out)
  have hc2 := convW (own_bs HS3.out.tw.own)
  have hc3 := convW (own_bs HS3.out.oy)
  clear hoy hfy HT HT2 HOX
  generalize str8 xs = SS at hc1 hc2 hc3
  go_wp2_with fail
  clear hc1 hc2 hc3
  go_loopw [9] (fun i wx => ∃ (k : Nat) (ys : List Nat), k ≤ xs.length ∧ i = .int .i64 (k : Int) ∧ ys.length = xs.length ∧ Hid (wx.ownsRow w1.heap.size 5 1 (.slice aox xs.length capx) ys.length (by8 ys)) ∧ Hid (WS w v (.slice aob xs.length capb) (.slice aoy xs.length capy) xs xs xs wx)) (fun i _ => xs.length - (intOf i).toNat)
  case atStart => exact ⟨0, xs, Nat.zero_le _, rfl, rfl, HOX3, HS3⟩
  case round =>
    obtain ⟨k, ys, hk, rfl, hyl, HY, HS⟩ := hrel
    by_cases hlt : k < xs.length
    · obtain ⟨g, rfl⟩ := own_addr HY.out (by omega)
      obtain ⟨hcell, hfree⟩ := own_cell HY.out (g := g) rfl k (by omega)
      have hgx := HX3.out g rfl
      have HN1 : Hid ((wr.setCell ⟨g, k, none⟩ (.int .u8 0)).ownsRow w1.heap.size 5 1 (.slice (some ⟨g, 0, none⟩) xs.length capx) (ys.set k 0).length (by8 (ys.set k 0))) := own_set HY.out (g := g) rfl k 0
      have HN2 : Hid (WS w v (.slice aob xs.length capb) (.slice aoy xs.length capy) xs xs xs (wr.setCell ⟨g, k, none⟩ (.int .u8 0))) := by
        have hf := fr_set wr g k (.int .u8 0)
        have h := HS.out
        exact ⟨⟨h.tw.wr.fr hf (fun e => hgx.2.1 e.symm) (fun k hk e => hgx.2.2.1 (by rw [← e]; exact hk)), own_fr h.tw.own hf (fun k hk e => hgx.2.2.2.1 (by rw [← e]; exact hk)), h.tw.ap, h.tw.below.setCell hgx.1 _⟩, own_fr h.oy hf (fun k hk e => hgx.2.2.2.2 (by rw [← e]; exact hk)), h.ay⟩
      have t1 : (k : Int) < (xs.length : Int) := by omega
      clear HY HS
      go_wp2
      exact ⟨⟨k + 1, ys.set k 0, by omega, by go_num, by simpa using hyl, HN1, HN2⟩, by simp [intOf]; omega⟩
    · have t1 : ¬ (k : Int) < (xs.length : Int) := by omega
      clear HY HOX3 HS3 HX3
      go_wp2_with fail
      go_loopw [6, 10] (fun b i wx => ∃ (k : Nat) (v' : Value) (zs : List Nat), k ≤ ms.length ∧ k ≤ 50 ∧ i = .int .i64 (k : Int) ∧ Hid (WS w v' b (.slice aoy xs.length capy) xs zs zs wx) ∧ zs.length ≤ 3000000 + 10 * k ∧ Hid (∃ ext, zs = xs ++ ext)) (fun _ i _ => 50 - (intOf i).toNat)
      case atStart => exact ⟨0, v, xs, Nat.zero_le _, by omega, rfl, HS, by omega, [], by simp⟩
      case round =>
        obtain ⟨q, v', zs, hq, hq50, rfl, HR, hel, HE⟩ := hrel
        obtain ⟨aob2, capb2, rfl⟩ := own_nil_shape HR.out.tw.own
        have hsz := HR.out.tw.below.size
        by_cases hgo : q < ms.length ∧ q < 50
        · obtain ⟨g1, g2⟩ := hgo
          obtain ⟨b, off, hmb, hcell⟩ := HMC.out (by intro e; subst e; simp at g1)
          subst hmb
          have hck := hcell q g1
          obtain ⟨c, hc⟩ : ∃ c, c = ms.getD q noCall := ⟨_, rfl⟩
          have hcm : c ∈ ms := by rw [hc]; simp only [List.getD, List.getElem?_eq_getElem g1, Option.getD_some]; exact List.getElem_mem g1
          have hcf := HMF.out c hcm
          rw [← hc] at hck
          have HCK := hidR (fun W (hW : Below w.heap.size w W) => hck.below hW rfl)
          obtain ⟨⟨n0, n1⟩, _, _, _⟩ := hcf
          clear hcell hck hc hcm
          have t2 : (q : Int) < (ms.length : Int) := by omega
          have t3 : (q : Int) < 50 := by omega
          obtain ⟨d0, d1, _, _, _⟩ := HCK.out wr HR.out.tw.below
          obtain ⟨kind, cn, ci, s, most⟩ := c
          simp only at n0 n1 d0 d1
          by_cases k1 : kind = 1
          · subst k1
            go_wp2_with fail
            refine (num_any w.heap.size w.heap.size v' zs cn wr n0 n1 HR.out.tw.wr hsz (by omega)).mono ?_
            rintro e w4 ⟨rfl, v4, hw4, hf4, hn4⟩
            have HR4 := hidR (HR.out.w hw4 hf4 hn4)
            have hs4 := hf4.size
            obtain ⟨e0, e1, _, _, _⟩ := HCK.out w4 HR4.out.tw.below
            simp only at e0 e1
            clear hw4 hf4 hn4
            go_wp2_with fail
            refine (refnum_any w.heap.size _ zs cn w4 n0 n1 HR4.out.tw.own (by omega) (by omega)).mono ?_
            rintro e w5 ⟨bv5, rfl, ho5, hf5, hn5⟩
            have HR5 := hidR (HR4.out.b ho5 hf5 hn5)
            have hl5 : (zs ++ numB cn).length ≤ 3000000 + 10 * (q + 1) := by
              have := numB_length cn
              rw [List.length_append]
              omega
            have HE5 : Hid (∃ ext, zs ++ numB cn = xs ++ ext) := by
              obtain ⟨ext, he⟩ := HE.out
              exact ⟨ext ++ numB cn, by rw [he, List.append_assoc]⟩
            obtain ⟨ao5, cap5, rfl⟩ := own_nil_shape ho5
            clear ho5 hf5 hn5 HR4 HR
            generalize zs ++ numB cn = zs5 at *
            go_wp2
            exact ⟨⟨q + 1, v4, zs5, by omega, by omega, by go_num, HR5, hl5, HE5⟩, by simp [intOf]; omega⟩
          · have q1 : (kind == 1) = false := by simpa using k1
            go_wp2
            exact ⟨⟨q + 1, v', zs, by omega, by omega, by go_num, HR, by omega, HE⟩, by simp [intOf]; omega⟩
        · go_upto_region 11 with fail
          go_cut [48] (fun s48 wx => wx = wr ∧ s48 = .bool false)
          case first =>
            by_cases g1 : q < ms.length
            · have t2 : (q : Int) < (ms.length : Int) := by omega
              have t3 : ¬ (q : Int) < 50 := by omega
              go_wp2
              go_meet
              exact ⟨rfl, rfl⟩
            · have t2 : ¬ (q : Int) < (ms.length : Int) := by omega
              go_wp2
              go_meet
              exact ⟨rfl, rfl⟩
          case rest =>
            obtain ⟨rfl, rfl⟩ := hcut
            obtain ⟨W, hWr⟩ : ∃ W, W = wc := ⟨_, rfl⟩
            rw [← hWr]
            rw [← hWr] at HR
            clear hWr
            have hcb : (xs.length : Int) ≤ (capb2 : Int) := by
              obtain ⟨ext, he⟩ := HE.out
              have h1 := congrArg List.length he
              rw [List.length_append] at h1
              rcases HR.out.tw.own.2 with ⟨h, h0⟩ | ⟨g, cap', cur, h, _, _, hle, _⟩
              · omega
              · simp only [Value.slice.injEq] at h
                omega
            have HR1 : Hid (WS w v' (.slice aob2 zs.length capb2) (.slice aoy xs.length capy) xs zs zs W.drew) := HR.out.none (Fr.refl W (fun _ => False)).drew
            have HFB : Hid (∀ W', WS w v' (.slice aob2 zs.length capb2) (.slice aoy xs.length capy) xs zs zs W' → Bs W' (.slice aob2 xs.length capb2) xs) := fun W' h => by
              obtain ⟨ext, he⟩ := HE.out
              subst he
              exact bs_front h.tw.own
            have HCV := hidR (fun W' (h : WS w v' (.slice aob2 zs.length capb2) (.slice aoy xs.length capy) xs zs zs W') => (⟨convW (own_bs h.tw.own), convW (own_bs h.oy), convW (HFB.out W' h)⟩ : _ ∧ _ ∧ _))
            have HCN := hidR (fun (W' : World) (vn : Value) (base : Nat) (h : W'.ownsRow base 5 1 vn zs.length (by8 zs)) => convW (own_bs h))
            have HBY := hidR (fun W' (h : WS w v' (.slice aob2 zs.length capb2) (.slice aoy xs.length capy) xs zs zs W') => bytes_any w.heap.size w.heap.size v' zs W' h.tw.wr (by omega))
            generalize str8 zs = SZ at HCV HCN
            generalize str8 xs = SX at HCV HCN
            obtain ⟨p4, p5, p6⟩ := HCV.out W.drew HR1.out
            clear p5 p6
            clear HFB HE HS HMC HMF HL t1 hyl hlt hs1 hs2 hq hel hgo hk hxl hq50 hsz hml
            go_wp2_with fail
            rename_i Q1 K1 A1 K0 A0
            clear A1 K1 Q1
            iterate 40 (first | (rename_i uu; clear uu) | skip)
            go_region_held (fun W' => Hid (WS w v' (.slice aob2 zs.length capb2) (.slice aoy xs.length capy) xs zs zs W') ∧ (convert 27 9 (.slice aob2 zs.length capb2)).run Try.prog W' = .ok (.string SZ) W' ∧ (convert 27 9 (.slice aoy xs.length capy)).run Try.prog W' = .ok (.string SX) W' ∧ (convert 27 9 (.slice aob2 xs.length capb2)).run Try.prog W' = .ok (.string SX) W')
              (first | exact ⟨HR7, HCV.out _ HR7.out⟩ | exact ⟨HR5, HCV.out _ HR5.out⟩ | exact ⟨HR1, HCV.out _ HR1.out⟩)
              (first
                | (go_at_call 11; refine (HBY.out W.drew HR1.out).mono ?_; rintro e w5 ⟨v5, rfl, ho5, hf5⟩; obtain ⟨ao5, cap5, rfl⟩ := own_nil_shape ho5; have HR5 := hidR (HR1.out.none hf5); have p10 := HCN.out w5 _ _ ho5; clear ho5 hf5)
                | (go_at_call 9; refine (head_any _).mono ?_; rintro e w7 ⟨rfl, hb7⟩; have HB7 := hidR (HR5.out.tw.below.trans (hb7.mono HR5.out.tw.below.size)); have HR7 := hidR (HR5.out.none (Fr.ofBelow hb7)); clear hb7))
            all_goals go_wp2
            all_goals go_ret
            all_goals exact ⟨rfl, HB7.out⟩
end Go.Proofs.Ytdhobmnljniccaa
