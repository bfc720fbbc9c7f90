/- chain: Put, Kill: walks. -/
import Derived.Test.YtcjadgnefojjgaaDoorCLayG
namespace Go.Proofs.YtcjadgnefojjgaaDoor.G
open Go.RowKit

set_option maxRecDepth 100000 in
theorem put_any {base B : Nat} {v : Value} {L : List Vn} (e : Int) (x : A4) (w : World) (h : Ch w base B v L) (hx : fit4 x) (hlen : L.length < 2000000) (hbase : base ≤ w.heap.size) :
    Calls Tryd.prog 22 #[.pointer (some ⟨B, 0, none⟩), .int .i64 e, .agg #[.int .i64 x.c, .int .i64 x.s, .int .i64 x.m, .int .i64 x.x]] w fun r w' => r = .returned (.tuple #[.int .i64 (putN L e), .int .i64 (wrong L e)]) ∧ ∃ v', Ch w' base B v' (putL L e x) ∧ Fr w w' (fun k => k = B ∨ v.ownBlock = some k) ∧ Nw w v v' := by
  have HCk := hid (fun (W : World) (hf : Fr w W (fun _ => False)) => check_any e W (h.step hf))
  have HCh := hid h
  have HLay := hid (fun (w' : World) (hf : Fr w w' (fun _ => False)) (hw : wrong L e = 0) => lay_any ⟨e, true, x⟩ w' (h.step hf) ⟨(wrong_zero hw).1, (wrong_zero hw).2.1, hx, fun h => by cases h⟩ (wrong_zero hw).2.2 hlen (Nat.le_trans hbase hf.size))
  clear h hx hlen hbase
  unfold vA at HLay
  have HP : Hid (putN L e = if wrong L e = 0 then layN L ⟨e, true, x⟩ else 0) := rfl
  have HQ : Hid (putL L e x = if wrong L e = 0 then layL L ⟨e, true, x⟩ else L) := rfl
  by_cases hw : wrong L e = 0
  · have hp := HP.out
    have hq := HQ.out
    rw [if_pos hw] at hp hq
    rw [hp, hq, hw]
    rw [hw] at HCk
    have HW := hid hw
    clear hw hp hq HP HQ
    generalize layN L ⟨e, true, x⟩ = N at *
    go_enter Tryd.func22, Tryd.ntmps22
    go_wp2_with fail
    refine (HCk.out _ (alloc_fr _ _ _)).mono ?_
    rintro r w1 ⟨rfl, hf1⟩
    have HZ := (hf1.block w.heap.size (by simp) (fun h => h)).trans (heap_last _ _ _ rfl)
    obtain ⟨z0, z1, z2, z3⟩ := cells4 HZ
    have hzl := lt_of_block HZ
    have HF1 := hid ((alloc_fr w _ _).trans hf1)
    clear hf1 HZ
    go_wp2_with fail
    refine (HLay.out _ HF1.out HW.out).mono ?_
    rintro r w2 ⟨rfl, v', h2, hf2, hn2⟩
    have HX := hid (And.intro h2 (And.intro hf2 hn2))
    clear h2 hf2 hn2
    go_wp2_with fail
    go_ret2
    exact ⟨rfl, v', HX.out.1, (HF1.out.mono (fun _ _ h => h.elim)).trans HX.out.2.1, (Nw.refl _ _).trans HX.out.2.2 HF1.out.size⟩
  · have hp := HP.out
    have hq := HQ.out
    rw [if_neg hw] at hp hq
    rw [hp, hq]
    generalize wrong L e = N at *
    clear hp hq HP HQ HLay
    have t1 : (N != 0) = true := by simpa using hw
    go_enter Tryd.func22, Tryd.ntmps22
    go_wp2_with fail
    refine (HCk.out _ (alloc_fr _ _ _)).mono ?_
    rintro r w1 ⟨rfl, hf1⟩
    have HF1 := hid ((alloc_fr w _ _).trans hf1)
    clear hf1
    go_wp2_with fail
    go_ret2
    exact ⟨rfl, v, HCh.out.step HF1.out, HF1.out.mono (fun _ _ h => h.elim), Nw.refl _ _⟩

set_option maxRecDepth 100000 in
theorem kill_any {base B : Nat} {v : Value} {L : List Vn} (e : Int) (w : World) (h : Ch w base B v L) (hlen : L.length < 2000000) (hbase : base ≤ w.heap.size) :
    Calls Tryd.prog 26 #[.pointer (some ⟨B, 0, none⟩), .int .i64 e] w fun r w' => r = .returned (.tuple #[.int .i64 (killN L e), .int .i64 (gone L e)]) ∧ ∃ v', Ch w' base B v' (killL L e) ∧ Fr w w' (fun k => k = B ∨ v.ownBlock = some k) ∧ Nw w v v' := by
  have HCk := hid (check_any e w h)
  have HCh := hid h
  have hlt := h.lt
  have hc := cell_of_one h.cell
  have hfs := field_st
  have hft := field_th
  have HLast := hid (fun (w' : World) (hf : Fr w w' (fun _ => False)) => last_any v L w' (h.vs.fr hf))
  have HLay := hid (fun (w' : World) (hf : Fr w w' (fun _ => False)) (hw : wrong L e = 0) => lay_any ⟨e, false, ⟨0, 0, 0, 0⟩⟩ w' (h.step hf) ⟨(wrong_zero hw).1, (wrong_zero hw).2.1, by unfold fit4 fits; simp, fun _ => rfl⟩ (wrong_zero hw).2.2 hlen (Nat.le_trans hbase hf.size))
  obtain ⟨ao, cap, rfl, _⟩ := own_shape h.own
  clear h hlen hbase
  unfold vA at HLay
  unfold vA at HLast
  have HP : Hid (killN L e = if gone L e = 0 then layN L ⟨e, false, ⟨0, 0, 0, 0⟩⟩ else 0) := rfl
  have HQ : Hid (killL L e = if gone L e = 0 then layL L ⟨e, false, ⟨0, 0, 0, 0⟩⟩ else L) := rfl
  have HG : Hid (gone L e = if wrong L e = 0 then (if (nw L).t then 0 else 44) else wrong L e) := rfl
  by_cases hw : wrong L e = 0
  · rw [hw] at HCk
    have HW := hid hw
    cases ht : (nw L).t with
    | true =>
      have hg : gone L e = 0 := by rw [HG.out, if_pos hw, ht]; rfl
      have hp := HP.out
      have hq := HQ.out
      rw [if_pos hg] at hp hq
      rw [hp, hq, hg]
      rw [ht] at HLast
      clear hw hp hq HP HQ HG hg
      generalize layN L ⟨e, false, ⟨0, 0, 0, 0⟩⟩ = N at *
      go_enter Tryd.func26, Tryd.ntmps26
      go_wp2_with fail
      refine HCk.out.mono ?_
      rintro r w1 ⟨rfl, hf1⟩
      have HF1 := hid hf1
      have hc1 : w1.cell? ⟨B, 0, none⟩ = some (.slice ao L.length cap) := by rw [(fr_rules hf1).1 _ _ hlt]; exact hc
      have hs1 := hf1.size
      clear hf1
      go_wp2_with fail
      refine (HLast.out _ HF1.out).mono ?_
      rintro r w2 ⟨rfl, hf2⟩
      have HF2 := hid (HF1.out.trans hf2)
      clear hf2
      go_wp2_with fail
      refine (HLay.out _ HF2.out HW.out).mono ?_
      rintro r w3 ⟨rfl, v', h2, hf2, hn2⟩
      have HX := hid (And.intro h2 (And.intro hf2 hn2))
      clear h2 hf2 hn2
      go_wp2_with fail
      go_ret2
      exact ⟨rfl, v', HX.out.1, (HF2.out.mono (fun _ _ h => h.elim)).trans HX.out.2.1, (Nw.refl _ _).trans HX.out.2.2 HF2.out.size⟩
    | false =>
      have hg : gone L e = 44 := by rw [HG.out, if_pos hw, ht]; rfl
      have hp := HP.out
      have hq := HQ.out
      rw [if_neg (by rw [hg]; decide)] at hp hq
      rw [hp, hq, hg]
      rw [ht] at HLast
      clear hw hp hq HP HQ HG hg HLay
      go_enter Tryd.func26, Tryd.ntmps26
      go_wp2_with fail
      refine HCk.out.mono ?_
      rintro r w1 ⟨rfl, hf1⟩
      have HF1 := hid hf1
      have hc1 : w1.cell? ⟨B, 0, none⟩ = some (.slice ao L.length cap) := by rw [(fr_rules hf1).1 _ _ hlt]; exact hc
      have hs1 := hf1.size
      clear hf1
      go_wp2_with fail
      refine (HLast.out _ HF1.out).mono ?_
      rintro r w2 ⟨rfl, hf2⟩
      have HF2 := hid (HF1.out.trans hf2)
      clear hf2
      go_wp2_with fail
      go_ret2
      exact ⟨rfl, _, HCh.out.step HF2.out, HF2.out.mono (fun _ _ h => h.elim), Nw.refl _ _⟩
  · have hg : gone L e = wrong L e := by rw [HG.out, if_neg hw]
    have hp := HP.out
    have hq := HQ.out
    rw [if_neg (by rw [hg]; exact hw)] at hp hq
    rw [hp, hq, hg]
    clear hg HG
    generalize wrong L e = N at *
    clear hp hq HP HQ HLay HLast
    have t1 : (N != 0) = true := by simpa using hw
    go_enter Tryd.func26, Tryd.ntmps26
    go_wp2_with fail
    refine HCk.out.mono ?_
    rintro r w1 ⟨rfl, hf1⟩
    have HF1 := hid hf1
    clear hf1
    go_wp2_with fail
    go_ret2
    exact ⟨rfl, _, HCh.out.step HF1.out, HF1.out.mono (fun _ _ h => h.elim), Nw.refl _ _⟩

set_option maxRecDepth 100000 in
theorem put_bad {base B : Nat} {v : Value} {L : List Vn} (e : Int) (x : A4) (w : World) (h : Ch w base B v L) (hw : wrong L e ≠ 0) :
    Calls Tryd.prog 22 #[.pointer (some ⟨B, 0, none⟩), .int .i64 e, .agg #[.int .i64 x.c, .int .i64 x.s, .int .i64 x.m, .int .i64 x.x]] w fun r w' => r = .returned (.tuple #[.int .i64 0, .int .i64 (wrong L e)]) ∧ Fr w w' (fun _ => False) := by
  have HCk := hid (fun (W : World) (hf : Fr w W (fun _ => False)) => check_any e W (h.step hf))
  clear h
  generalize wrong L e = N at *
  have t1 : (N != 0) = true := by simpa using hw
  go_enter Tryd.func22, Tryd.ntmps22
  go_wp2_with fail
  refine (HCk.out _ (alloc_fr _ _ _)).mono ?_
  rintro r w1 ⟨rfl, hf1⟩
  have HF1 := hid ((alloc_fr w _ _).trans hf1)
  clear hf1
  go_wp2_with fail
  go_ret2
  exact ⟨rfl, HF1.out⟩

set_option maxRecDepth 100000 in
theorem kill_bad {base B : Nat} {v : Value} {L : List Vn} (e : Int) (w : World) (h : Ch w base B v L) (hg : gone L e ≠ 0) :
    Calls Tryd.prog 26 #[.pointer (some ⟨B, 0, none⟩), .int .i64 e] w fun r w' => r = .returned (.tuple #[.int .i64 0, .int .i64 (gone L e)]) ∧ Fr w w' (fun _ => False) := by
  have HCk := hid (check_any e w h)
  have hlt := h.lt
  have hc := cell_of_one h.cell
  have hfs := field_st
  have hft := field_th
  have HLast := hid (fun (w' : World) (hf : Fr w w' (fun _ => False)) => last_any v L w' (h.vs.fr hf))
  obtain ⟨ao, cap, rfl, _⟩ := own_shape h.own
  clear h
  unfold vA at HLast
  by_cases hw : wrong L e = 0
  · have ht : (nw L).t = false := by
      cases ht : (nw L).t
      · rfl
      · exact absurd (by unfold gone; rw [if_pos hw, ht]; rfl) hg
    have hge : gone L e = 44 := by unfold gone; rw [if_pos hw, ht]; rfl
    rw [hge]
    rw [hw] at HCk
    rw [ht] at HLast
    clear hw hg hge ht
    go_enter Tryd.func26, Tryd.ntmps26
    go_wp2_with fail
    refine HCk.out.mono ?_
    rintro r w1 ⟨rfl, hf1⟩
    have HF1 := hid hf1
    have hc1 : w1.cell? ⟨B, 0, none⟩ = some (.slice ao L.length cap) := by rw [(fr_rules hf1).1 _ _ hlt]; exact hc
    have hs1 := hf1.size
    clear hf1
    go_wp2_with fail
    refine (HLast.out _ HF1.out).mono ?_
    rintro r w2 ⟨rfl, hf2⟩
    have HF2 := hid (HF1.out.trans hf2)
    clear hf2
    go_wp2_with fail
    go_ret2
    exact ⟨rfl, HF2.out⟩
  · have hge : gone L e = wrong L e := by unfold gone; rw [if_neg hw]
    rw [hge]
    clear hge hg HLast
    generalize wrong L e = N at *
    have t1 : (N != 0) = true := by simpa using hw
    go_enter Tryd.func26, Tryd.ntmps26
    go_wp2_with fail
    refine HCk.out.mono ?_
    rintro r w1 ⟨rfl, hf1⟩
    have HF1 := hid hf1
    clear hf1
    go_wp2_with fail
    go_ret2
    exact ⟨rfl, HF1.out⟩
end Go.Proofs.YtcjadgnefojjgaaDoor.G
