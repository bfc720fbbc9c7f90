import Derived.Test.YtahcbkkjlfdffaaMKnown
import Derived.Test.YtahcbkkjlfdffaaMRefCell
import Derived.Deep.DeepCutAuto
/- MergeKeys: a walk. -/
namespace Go.Proofs.Ytahcbkkjlfdffaa.M
open Go.RowKit

theorem eqK_same (av : Int) (ak : ByteArray) (az : Int) (W : World) : (binOp .eql 23 (.agg #[.int .i64 av, .string ak, .int .i64 az]) (.agg #[.int .i64 av, .string ak, .int .i64 az])).run Try.prog W = .ok (.bool true) W := by
  go_simp
theorem cell_fst (l : List Nat) : (cell l).1 = (cellE l).1 := by
  unfold cell
  split <;> rfl
theorem cell_snd (l : List Nat) : (cell l).2 = if (cellE l).1 = 0 then (cellE l).2 else c0 := by
  unfold cell
  split <;> rfl

set_option maxHeartbeats 4000000 in
set_option maxRecDepth 100000 in
theorem keys_walk (a b : Cl) (s : ByteArray) (w : World) (ha : a.k.size ≤ 9223372036854775807) (hs : s.size ≤ 140737488355327) : Calls Try.prog 3 #[vC a, vC b, .string s] w fun e w' => e = .returned (.bool true) ∧ Fr w w' (fun _ => False) := by
  have HKa := hid (fun W => key_any a W ha)
  have HRa := hid (fun W => rkey_any a W ha)
  have HCs := hid (fun W => cell_any s W hs)
  have HRs := hid (fun W => rcell_any s W hs)
  have HAB := hid (fun W => compareC_any a b W)
  have HBA := hid (fun W => compareC_any b a W)
  have HAA := hid (fun W => compareC_any a a W)
  have RAB := hid (fun W => rcompare_any a b W)
  have RBA := hid (fun W => rcompare_any b a W)
  rw [cell_fst, cell_snd] at HCs
  rw [show cmpC a a = 0 from cmpC_zero.2 rfl] at HAA
  unfold vC at HKa HRa HAB HBA HAA RAB RBA ⊢
  generalize cellE (nums8 s) = Z at *
  obtain ⟨ze, zc⟩ := Z
  dsimp only at *
  generalize key a = ka at *
  generalize mE a = ea at *
  generalize cmpC a b = x at *
  generalize cmpC b a = y at *
  obtain ⟨av, ak, az⟩ := a
  obtain ⟨bv, bk, bz⟩ := b
  dsimp only at *
  go_enter Try.func3, Try.ntmps3
  go_wp2_with fail
  have h0 : ((w.alloc (.cells #[.int .i64 av, .string ak, .int .i64 az] 23)).alloc (.cells #[.int .i64 bv, .string bk, .int .i64 bz] 23)).heap[w.heap.size]? = some (.cells #[.int .i64 av, .string ak, .int .i64 az] 23 (0, 0)) := by
    rw [(alloc_fr _ _ (fun _ => False)).block _ (by simp) (fun h => h)]
    exact heap_last _ _ _ rfl
  have h1 : ((w.alloc (.cells #[.int .i64 av, .string ak, .int .i64 az] 23)).alloc (.cells #[.int .i64 bv, .string bk, .int .i64 bz] 23)).heap[w.heap.size + 1]? = some (.cells #[.int .i64 bv, .string bk, .int .i64 bz] 23 (0, 0)) := heap_last _ _ _ (by simp)
  have HFa := hid ((alloc_fr w (.cells #[.int .i64 av, .string ak, .int .i64 az] 23) (fun _ => False)).alloc (.cells #[.int .i64 bv, .string bk, .int .i64 bz] 23))
  generalize ((w.alloc (.cells #[.int .i64 av, .string ak, .int .i64 az] 23)).alloc (.cells #[.int .i64 bv, .string bk, .int .i64 bz] 23)) = wa at *
  refine (known_any _).mono ?_
  rintro e wb ⟨rfl, hfb⟩
  have HC := hid (fun (W' : World) (hf : Fr wb W' (fun _ => False)) => (show (W'.cell? ⟨w.heap.size, 0, none⟩ = some (.int .i64 av) ∧ W'.cell? ⟨w.heap.size, 1, none⟩ = some (.string ak) ∧ W'.cell? ⟨w.heap.size, 2, none⟩ = some (.int .i64 az)) ∧ (W'.cell? ⟨w.heap.size + 1, 0, none⟩ = some (.int .i64 bv) ∧ W'.cell? ⟨w.heap.size + 1, 1, none⟩ = some (.string bk) ∧ W'.cell? ⟨w.heap.size + 1, 2, none⟩ = some (.int .i64 bz)) from
    ⟨cells3 (((hfb.trans hf).block _ (lt_of_block h0) (fun h => h)).trans h0), cells3 (((hfb.trans hf).block _ (lt_of_block h1) (fun h => h)).trans h1)⟩))
  have HF := hid (HFa.out.trans hfb)
  clear hfb h0 h1 HFa
  generalize w.heap.size = N at *
  have HX := hid (Fr.refl wb (fun _ => False))
  obtain ⟨⟨a0, a1, a2⟩, _⟩ := HC.out _ HX.out
  go_wp2_with fail
  refine (HKa.out _).mono ?_
  rintro e w1 ⟨rfl, hf⟩
  have HX1 := hid (HX.out.trans hf)
  clear hf a0 a1 a2 HX
  obtain ⟨⟨a0, a1, a2⟩, _⟩ := HC.out _ HX1.out
  go_wp2_with fail
  refine (HRa.out _).mono ?_
  rintro e w2 ⟨rfl, hf⟩
  have HX2 := hid (HX1.out.trans hf)
  clear hf a0 a1 a2 HX1
  go_wp2_with fail
  refine (HCs.out _).mono ?_
  rintro e w3 ⟨rfl, hf⟩
  have HX3 := hid (HX2.out.trans hf)
  clear hf HX2
  -- the program's cell in a block of its own
  have HP : Hid (Fr w3 (w3.alloc (.cells #[.int .i64 (if ze = 0 then zc else c0).v, .string (if ze = 0 then zc else c0).k, .int .i64 (if ze = 0 then zc else c0).s] 23)) (fun _ => False)) := alloc_fr _ _ _
  have HPb : Hid ((w3.alloc (.cells #[.int .i64 (if ze = 0 then zc else c0).v, .string (if ze = 0 then zc else c0).k, .int .i64 (if ze = 0 then zc else c0).s] 23)).heap[w3.heap.size]? = some (.cells #[.int .i64 (if ze = 0 then zc else c0).v, .string (if ze = 0 then zc else c0).k, .int .i64 (if ze = 0 then zc else c0).s] 23 (0, 0))) := heap_last _ _ _ rfl
  unfold vC
  generalize hyc : (if ze = 0 then zc else c0) = yc at *
  have HYC := hid hyc
  clear hyc
  obtain ⟨yv, yk, yz⟩ := yc
  dsimp only at *
  go_wp2_with fail
  generalize (w3.alloc (.cells #[.int .i64 yv, .string yk, .int .i64 yz] 23)) = w4 at *
  generalize w3.heap.size = N3 at *
  refine (HRs.out _).mono ?_
  rintro e w5 ⟨rfl, hf⟩
  have HX5 := hid (HX3.out.trans (HP.out.trans hf))
  have HPb5 := hid ((hf.block _ (lt_of_block HPb.out) (fun h => h)).trans HPb.out)
  clear hf HX3 HP HPb
  unfold vC
  obtain ⟨zv, zk, zz⟩ := zc
  dsimp only at *
  have HPz : Hid ((w5.alloc (.cells #[.int .i64 zv, .string zk, .int .i64 zz] 23)).heap[w5.heap.size]? = some (.cells #[.int .i64 zv, .string zk, .int .i64 zz] 23 (0, 0))) := heap_last _ _ _ rfl
  have HX6 := hid (HX5.out.alloc (.cells #[.int .i64 zv, .string zk, .int .i64 zz] 23))
  have HPb6 : Hid ((w5.alloc (.cells #[.int .i64 zv, .string zk, .int .i64 zz] 23)).heap[N3]? = some (.cells #[.int .i64 yv, .string yk, .int .i64 yz] 23 (0, 0))) := by
    show (w5.alloc _).heap[N3]? = _
    rw [(alloc_fr w5 _ (fun _ => False)).block _ (lt_of_block HPb5.out) (fun h => h)]
    exact HPb5.out
  have hN35 : N3 < w5.heap.size := lt_of_block HPb5.out
  have HNb : Hid (wb.heap.size ≤ w5.heap.size) := HX5.out.size
  go_upto_if 38 with (fail)
  generalize (w5.alloc (.cells #[.int .i64 zv, .string zk, .int .i64 zz] 23)) = w6 at *
  generalize w5.heap.size = N5 at *
  clear HX5 HPb5
  go_cut [] (fun wx => Hid (Fr wb wx (fun _ => False) ∧ wx.heap[N3]? = some (.cells #[.int .i64 yv, .string yk, .int .i64 yz] 23 (0, 0)) ∧ wx.heap[N5]? = some (.cells #[.int .i64 yv, .string yk, .int .i64 yz] 23 (0, 0))))
  case first =>
    by_cases hz : ze = 0
    · have hy := HYC.out
      rw [if_pos hz] at hy
      cases hy
      subst hz
      go_wp2_with fail
      go_meet
      exact ⟨HX6.out, HPb6.out, HPz.out⟩
    · have hy := HYC.out
      rw [if_neg hz] at hy
      cases hy
      have tz : (ze != 0) = true := by simpa using hz
      obtain ⟨q0, q1, q2⟩ := cells3 HPz.out
      have ql := lt_of_block HPz.out
      have qf : ∀ o, w6.frozen? ⟨N5, o, none⟩ = false := fun o => by simp [World.frozen?, HPz.out]
      have hne : N3 ≠ N5 := by omega
      go_wp2_with fail
      go_meet
      refine ⟨by repeat (first | exact HX6.out | refine Fr.setCell ?_ (fun h => absurd h (by have := HNb.out; simp only; omega)) _), ?_, set3 HPz.out⟩
      rw [((((Fr.refl w6 (fun k => k = N5)).setCell (p := ⟨N5, 0, none⟩) (fun _ => rfl) _).setCell (p := ⟨N5, 1, none⟩) (fun _ => rfl) _).setCell (p := ⟨N5, 2, none⟩) (fun _ => rfl) _).block _ (lt_of_block HPb6.out) hne]
      exact HPb6.out
  case rest =>
    have HQ := hcut
    clear hcut
    have HC2 := hid (fun (W' : World) (hf : Fr wc W' (fun _ => False)) => (show (W'.cell? ⟨N, 0, none⟩ = some (.int .i64 av) ∧ W'.cell? ⟨N, 1, none⟩ = some (.string ak) ∧ W'.cell? ⟨N, 2, none⟩ = some (.int .i64 az)) ∧ (W'.cell? ⟨N + 1, 0, none⟩ = some (.int .i64 bv) ∧ W'.cell? ⟨N + 1, 1, none⟩ = some (.string bk) ∧ W'.cell? ⟨N + 1, 2, none⟩ = some (.int .i64 bz)) ∧ (W'.cell? ⟨N3, 0, none⟩ = some (.int .i64 yv) ∧ W'.cell? ⟨N3, 1, none⟩ = some (.string yk) ∧ W'.cell? ⟨N3, 2, none⟩ = some (.int .i64 yz)) ∧ (W'.cell? ⟨N5, 0, none⟩ = some (.int .i64 yv) ∧ W'.cell? ⟨N5, 1, none⟩ = some (.string yk) ∧ W'.cell? ⟨N5, 2, none⟩ = some (.int .i64 yz)) from
      ⟨(HC.out _ (HQ.out.1.trans hf)).1, (HC.out _ (HQ.out.1.trans hf)).2, cells3 ((hf.block _ (lt_of_block HQ.out.2.1) (fun h => h)).trans HQ.out.2.1), cells3 ((hf.block _ (lt_of_block HQ.out.2.2) (fun h => h)).trans HQ.out.2.2)⟩))
    have HX := hid (Fr.refl wc (fun _ => False))
    have HFc := hid (HF.out.trans HQ.out.1)
    clear HQ HPz HPb6 HX6 HC HF HKa HRa HCs HRs HYC HNb hN35
    have heq := fun W => eqK_same yv yk yz W
    go_wp2_with fail
    go_region_held3 (fun W' => Hid (Fr wc W' (fun _ => False)) ∧ (W'.cell? ⟨N, 0, none⟩ = some (.int .i64 av) ∧ W'.cell? ⟨N, 1, none⟩ = some (.string ak) ∧ W'.cell? ⟨N, 2, none⟩ = some (.int .i64 az)) ∧ (W'.cell? ⟨N + 1, 0, none⟩ = some (.int .i64 bv) ∧ W'.cell? ⟨N + 1, 1, none⟩ = some (.string bk) ∧ W'.cell? ⟨N + 1, 2, none⟩ = some (.int .i64 bz)) ∧ (W'.cell? ⟨N3, 0, none⟩ = some (.int .i64 yv) ∧ W'.cell? ⟨N3, 1, none⟩ = some (.string yk) ∧ W'.cell? ⟨N3, 2, none⟩ = some (.int .i64 yz)) ∧ (W'.cell? ⟨N5, 0, none⟩ = some (.int .i64 yv) ∧ W'.cell? ⟨N5, 1, none⟩ = some (.string yk) ∧ W'.cell? ⟨N5, 2, none⟩ = some (.int .i64 yz)))
      ((refine (fun h => ⟨h, HC2.out _ h⟩ : Fr wc _ (fun _ => False) → _) ?_; repeat (first | exact HX.out | apply Fr.drew | apply Fr.alloc)))
      (first
    | (go_at_call 14; with_reducible refine (HAA.out _).mono ?_; rintro e w7 ⟨rfl, hf⟩; have HX := hid (Fr.trans (a := wc) (by repeat (first | exact HX.out | apply Fr.drew | apply Fr.alloc)) hf); clear hf)
    | (go_at_call 14; with_reducible refine (HAB.out _).mono ?_; rintro e w7 ⟨rfl, hf⟩; have HX := hid (Fr.trans (a := wc) (by repeat (first | exact HX.out | apply Fr.drew | apply Fr.alloc)) hf); clear hf)
    | (go_at_call 14; with_reducible refine (HBA.out _).mono ?_; rintro e w7 ⟨rfl, hf⟩; have HX := hid (Fr.trans (a := wc) (by repeat (first | exact HX.out | apply Fr.drew | apply Fr.alloc)) hf); clear hf)
    | (go_at_call 15; with_reducible refine (RAB.out _).mono ?_; rintro e w7 ⟨rfl, hf⟩; have HX := hid (Fr.trans (a := wc) (by repeat (first | exact HX.out | apply Fr.drew | apply Fr.alloc)) hf); clear hf)
    | (go_at_call 15; with_reducible refine (RBA.out _).mono ?_; rintro e w7 ⟨rfl, hf⟩; have HX := hid (Fr.trans (a := wc) (by repeat (first | exact HX.out | apply Fr.drew | apply Fr.alloc)) hf); clear hf)
    | fail)
    all_goals (
      go_wp2_with fail
      go_ret
      exact ⟨by simp, HFc.out.trans (by repeat (first | exact HX.out | apply Fr.drew | apply Fr.alloc))⟩)
end Go.Proofs.Ytahcbkkjlfdffaa.M
