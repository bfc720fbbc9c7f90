/- chain: Put, Kill: walks. -/
import Derived.Test.YtcjadgnefojjgabDoorCLayG
namespace Go.Proofs.YtcjadgnefojjgabDoor.G
open Go.RowKit

set_option maxRecDepth 100000 in
theorem put_any {base B : Nat} {v : Value} {L : List Vn} (e : Int) (x : A4) (w : World) (h : Ch w base B v L) (hx : fit4 x) (hlen : L.length < 2000000) (hbase : base ≤ w.heap.size) :
    Calls Tryd.prog 19 #[.pointer (some ⟨B, 0, none⟩), .int .i64 e, .agg #[.int .i64 x.c, .int .i64 x.s, .int .i64 x.m, .int .i64 x.x]] w fun r w' => r = .returned (.tuple #[.int .i64 (putN L e), .int .i64 (wrong L e)]) ∧ ∃ v', Ch w' base B v' (putL L e x) ∧ Fr w w' (fun k => k = B ∨ v.ownBlock = some k) ∧ Nw w v v' := by
  have HCk := hid (fun (W : World) (hf : Fr w W (fun _ => False)) => check_any e W (h.step hf))
  have HCh := hid h
  have HLay := hid (fun (w' : World) (hf : Fr w w' (fun _ => False)) (hw : wrong L e = 0) => lay_any ⟨e, true, x⟩ w' (h.step hf) ⟨(wrong_zero hw).1, (wrong_zero hw).2.1, hx, fun h => by cases h⟩ (wrong_zero hw).2.2 hlen (Nat.le_trans hbase hf.size))
  clear h hx hlen hbase
  unfold vA at HLay
  have HP : Hid (putN L e = if wrong L e = 0 then layN L ⟨e, true, x⟩ else 0) := rfl
  have HQ : Hid (putL L e x = if wrong L e = 0 then layL L ⟨e, true, x⟩ else L) := rfl
  by_cases hw : wrong L e = 0
  · have hp := HP.out
    have hq := HQ.out
    rw [if_pos hw] at hp hq
    rw [hp, hq, hw]
    rw [hw] at HCk
    have HW := hid hw
    clear hw hp hq HP HQ
    generalize layN L ⟨e, true, x⟩ = N at *
    go_enter Tryd.func19, Tryd.ntmps19
    go_wp2_with fail
    refine (HCk.out _ (alloc_fr _ _ _)).mono ?_
    rintro r w1 ⟨rfl, hf1⟩
    have HZ := (hf1.block w.heap.size (by simp) (fun h => h)).trans (heap_last _ _ _ rfl)
    obtain ⟨z0, z1, z2, z3⟩ := cells4 HZ
    have hzl := lt_of_block HZ
    have HF1 := hid ((alloc_fr w _ _).trans hf1)
    clear hf1 HZ
    go_wp2_with fail
    refine (HLay.out _ HF1.out HW.out).mono ?_
    rintro r w2 ⟨rfl, v', h2, hf2, hn2⟩
    have HX := hid (And.intro h2 (And.intro hf2 hn2))
    clear h2 hf2 hn2
    go_wp2_with fail
    go_ret2
    exact ⟨rfl, v', HX.out.1, (HF1.out.mono (fun _ _ h => h.elim)).trans HX.out.2.1, (Nw.refl _ _).trans HX.out.2.2 HF1.out.size⟩
  · have hp := HP.out
    have hq := HQ.out
    rw [if_neg hw] at hp hq
    rw [hp, hq]
    generalize wrong L e = N at *
    clear hp hq HP HQ HLay
    have t1 : (N != 0) = true := by simpa using hw
    go_enter Tryd.func19, Tryd.ntmps19
    go_wp2_with fail
    refine (HCk.out _ (alloc_fr _ _ _)).mono ?_
    rintro r w1 ⟨rfl, hf1⟩
    have HF1 := hid ((alloc_fr w _ _).trans hf1)
    clear hf1
    go_wp2_with fail
    go_ret2
    exact ⟨rfl, v, HCh.out.step HF1.out, HF1.out.mono (fun _ _ h => h.elim), Nw.refl _ _⟩


set_option maxRecDepth 100000 in
theorem put_bad {base B : Nat} {v : Value} {L : List Vn} (e : Int) (x : A4) (w : World) (h : Ch w base B v L) (hw : wrong L e ≠ 0) :
    Calls Tryd.prog 19 #[.pointer (some ⟨B, 0, none⟩), .int .i64 e, .agg #[.int .i64 x.c, .int .i64 x.s, .int .i64 x.m, .int .i64 x.x]] w fun r w' => r = .returned (.tuple #[.int .i64 0, .int .i64 (wrong L e)]) ∧ Fr w w' (fun _ => False) := by
  have HCk := hid (fun (W : World) (hf : Fr w W (fun _ => False)) => check_any e W (h.step hf))
  clear h
  generalize wrong L e = N at *
  have t1 : (N != 0) = true := by simpa using hw
  go_enter Tryd.func19, Tryd.ntmps19
  go_wp2_with fail
  refine (HCk.out _ (alloc_fr _ _ _)).mono ?_
  rintro r w1 ⟨rfl, hf1⟩
  have HF1 := hid ((alloc_fr w _ _).trans hf1)
  clear hf1
  go_wp2_with fail
  go_ret2
  exact ⟨rfl, HF1.out⟩

end Go.Proofs.YtcjadgnefojjgabDoor.G
