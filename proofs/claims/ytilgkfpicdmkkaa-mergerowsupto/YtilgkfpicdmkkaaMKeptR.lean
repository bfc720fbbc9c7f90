/- The laws' KeptRows: a walk. -/
import Derived.Test.YtilgkfpicdmkkaaMLend2
import Derived.Deep.DeepCutAuto
import Derived.Deep.RegionHeld3
namespace Go.Proofs.Ytilgkfpicdmkkaa.M
open Go.RowKit

/-- The rows that were lent, the first ones written over. -/
def keptL (L : List Rw) (j : Nat) : List Rw := List.replicate j spR ++ (lentL L 3).drop j
theorem keptL_len (L : List Rw) (j : Nat) (h : j ≤ L.length + 3) : (keptL L j).length = L.length + 3 := by
  unfold keptL
  rw [List.length_append, List.length_replicate, List.length_drop, lentL_len L 3 (Nat.le_refl _)]
  omega
theorem keptL_at (L : List Rw) (j : Nat) : (keptL L j)[j]?.getD default = (lentL L 3)[j]?.getD default := by
  unfold keptL
  rw [List.getElem?_append_right (by simp), List.length_replicate, Nat.sub_self, List.getElem?_drop, Nat.add_zero]
theorem lentL_mark (L : List Rw) (j : Nat) (h1 : L.length ≤ j) (h2 : j < L.length + 3) : (lentL L 3)[j]?.getD default = mkR := by
  unfold lentL
  rw [List.getElem?_append_right h1, List.getElem?_append_left (by simp; omega), List.getElem?_replicate, if_pos (by omega)]
  rfl
theorem keptL_step (L : List Rw) (j : Nat) (h : j < L.length + 3) : (keptL L j).set j spR = keptL L (j + 1) := by
  have hl := lentL_len L 3 (Nat.le_refl _)
  unfold keptL
  rw [List.set_append_right _ _ (by simp), List.length_replicate, Nat.sub_self, List.drop_eq_getElem_cons (by omega), List.set_cons_zero, List.replicate_succ', List.append_assoc]
  rfl
theorem Row7.put {w : World} {g : Nat} {L : List Rw} {i : Nat} (h : Row7 w g L) (hi : i < L.length) (r : Rw) : Row7 (((((((w.setCell ⟨g, i * 7, none⟩ (.int .i64 r.c.v)).setCell ⟨g, i * 7 + 1, none⟩ (.string r.c.k)).setCell ⟨g, i * 7 + 2, none⟩ (.int .i64 r.c.s)).setCell ⟨g, i * 7 + 3, none⟩ (.int .i64 r.n)).setCell ⟨g, i * 7 + 4, none⟩ (.int .i64 r.s)).setCell ⟨g, i * 7 + 5, none⟩ (.int .i64 r.m)).setCell ⟨g, i * 7 + 6, none⟩ (.int .i64 r.x)) g (L.set i r) := by
  unfold Row7 at *
  rw [heap_setCell_same _ g _ _ _ _ (heap_setCell_same _ g _ _ _ _ (heap_setCell_same _ g _ _ _ _ (heap_setCell_same _ g _ _ _ _ (heap_setCell_same _ g _ _ _ _ (heap_setCell_same _ g _ _ _ _ (heap_setCell_same w g _ _ _ _ h))))))]
  rw [rc_set L i r hi]
  simp only [List.setIfInBounds_toArray]
  rfl
theorem eqM (W : World) : (binOp .eql 52 (.agg #[.int .i64 (-9), .string ⟨#[109, 97, 114, 107]⟩, .int .i64 9]) (.agg #[.int .i64 (-9), .string ⟨#[109, 97, 114, 107]⟩, .int .i64 9])).run Try.prog W = .ok (.bool true) W := by
  go_simp

set_option maxHeartbeats 4000000 in
set_option maxRecDepth 100000 in
theorem keptR_any {L : List Rw} {g : Nat} {v : Value} (w : World) (hR : Row7 w g (lentL L 3)) (hv : RdR w v L) (hl : L.length ≤ 200) :
    Calls Try.prog 13 #[.slice (some ⟨g, 0, none⟩) L.length (L.length + 3), v] w fun e w' => e = .returned (.bool true) ∧ Fr w w' (fun b => b = g) := by
  have HR := hid hR
  have hlen := lentL_len L 3 (Nat.le_refl _)
  have HS := hid (same_any (L := L) w (RdR.of (base := 0) (v := .slice (some ⟨g, 0, none⟩) L.length (L.length + 3)) (Row7.front (M := List.replicate 3 mkR ++ List.replicate (3 - 3) zR) hR (Nat.zero_le _) hlen (by omega)) (by omega)) hv)
  have HM := hid (fun (W : World) => mark_any W)
  obtain ⟨ao, cap, rfl, _⟩ := hv
  have z1 : (L.length : Int) + 3 ≤ ((L.length + 3 : Nat) : Int) := by omega
  have z2 : (0 : Int) ≤ (L.length : Int) + 3 := by omega
  have z3 : ((L.length : Int) + 3).toNat = L.length + 3 := by omega
  clear hR hlen
  go_enter Try.func13, Try.ntmps13
  go_wp2_with fail
  refine HS.out.mono ?_
  rintro e w1 ⟨rfl, hf⟩
  have HR1 := hid (HR.out.fr hf (fun h => h))
  have HF1 := hid (hf.mono (T := fun b => b = g) (fun _ _ h => h.elim))
  clear hf HS HR
  go_wp2_with fail
  go_loopg [5, 7] (L.length + 3) (fun gg s5 s7 wx => ∃ j : Nat, s5 = .bool true ∧ s7 = .int .i64 (j : Int) ∧ j + gg = L.length + 3 ∧ Hid (Row7 wx g (keptL L j)) ∧ Hid (Fr w wx (fun b => b = g)))
  case atStart => exact ⟨0, rfl, rfl, by omega, by show Row7 w1 g (keptL L 0); unfold keptL; simpa using HR1.out, HF1⟩
  case round =>
    obtain ⟨j, rfl, rfl, hj, HRj, HFj⟩ := hrel
    clear HR1 HF1
    cases gk with
    | zero =>
      have t1 : ¬ (j : Int) < (((L.length + 3 : Nat)) : Int) := by omega
      have t3 : ¬ (j : Int) < (L.length : Int) + 3 := by omega
      clear hj
      go_wp2_with fail
      go_ret
      exact ⟨rfl, HFj.out⟩
    | succ g2 =>
      have t0 : (0 : Int) ≤ (j : Int) := by omega
      have t1 : (j : Int) < (((L.length + 3 : Nat)) : Int) := by omega
      have t3 : (j : Int) < (L.length : Int) + 3 := by omega
      have hj3 : j < L.length + 3 := by omega
      have HJ := hid hj
      clear hj
      generalize wr = V at *
      by_cases hlt : j < L.length
      · have s1 : (j : Int) < (L.length : Int) := by omega
        have s2 : decide ((j : Int) < (L.length : Int)) = true := decide_eq_true s1
        clear hlt
        have HEl := hid (fun (W : World) (h : Row7 W g (keptL L j)) => h.el (by rw [keptL_len L j (by omega)]; omega) (i := j) (by rw [keptL_len L j (by omega)]; omega))
        go_wp2_with fail
        go_quiet (fail)
        have HRd := hid (HRj.out.fr (S := fun _ => False) (show Fr V (World.drewN V nq) (fun _ => False) from by repeat (first | with_reducible exact Fr.refl _ _ | with_reducible apply Fr.drew | with_reducible apply Fr.drewN)) (fun h => h))
        have HFd := hid (HFj.out.trans (show Fr V (World.drewN V nq) (fun b => b = g) from by repeat (first | with_reducible exact Fr.refl _ _ | with_reducible apply Fr.drew | with_reducible apply Fr.drewN)))
        generalize World.drewN V nq = V2 at *
        obtain ⟨x0, x1, x2, x3, x4, x5, x6⟩ := HEl.out V2 HRd.out
        have xf := HRd.out.free
        have xl := HRd.out.lt
        have HPt := hid (HRd.out.put (i := j) (by rw [keptL_len L j (by omega)]; omega) spR)
        rw [keptL_step L j hj3] at HPt
        have HFs := hid (fun (u0 u1 u2 u3 u4 u5 u6 : Value) => (((((((HFd.out.setCell (p := ⟨g, j * 7, none⟩) (fun _ => rfl) u0).setCell (p := ⟨g, j * 7 + 1, none⟩) (fun _ => rfl) u1).setCell (p := ⟨g, j * 7 + 2, none⟩) (fun _ => rfl) u2).setCell (p := ⟨g, j * 7 + 3, none⟩) (fun _ => rfl) u3).setCell (p := ⟨g, j * 7 + 4, none⟩) (fun _ => rfl) u4).setCell (p := ⟨g, j * 7 + 5, none⟩) (fun _ => rfl) u5).setCell (p := ⟨g, j * 7 + 6, none⟩) (fun _ => rfl) u6))
        generalize (keptL L j)[j]?.getD default = y at *
        unfold spR at HPt
        go_wp2_with fail
        go_roundg g2
        case measure => omega
        case rel => exact ⟨j + 1, rfl, by go_num, by have := HJ.out; omega, HPt, HFs.out _ _ _ _ _ _ _⟩
      · have s1 : ¬ (j : Int) < (L.length : Int) := by omega
        have s2 : decide ((j : Int) < (L.length : Int)) = false := decide_eq_false s1
        have HC0 := hid (fun (W' : World) (hf : Fr V W' (fun _ => False)) => (show W'.cell? ⟨g, j * 7, none⟩ = some (.int .i64 (-9)) ∧ W'.cell? ⟨g, j * 7 + 1, none⟩ = some (.string ⟨#[109, 97, 114, 107]⟩) ∧ W'.cell? ⟨g, j * 7 + 2, none⟩ = some (.int .i64 9) ∧ g < W'.heap.size from by
          have h1 := (HRj.out.fr hf (fun h => h)).el (by rw [keptL_len L j (by omega)]; omega) (i := j) (by rw [keptL_len L j (by omega)]; omega)
          rw [keptL_at L j, lentL_mark L j (by omega) (by omega)] at h1
          obtain ⟨y0, y1, y2, _⟩ := h1
          exact ⟨y0, y1, y2, (HRj.out.fr hf (fun h => h)).lt⟩))
        have HEl := hid (fun (W : World) (h : Row7 W g (keptL L j)) => h.el (by rw [keptL_len L j (by omega)]; omega) (i := j) (by rw [keptL_len L j (by omega)]; omega))
        have heq := eqM
        have HF := hid (Fr.refl V (fun _ => False))
        obtain ⟨y0, y1, y2, yl⟩ := HC0.out V HF.out
        have s3 : decide (j < L.length) = false := decide_eq_false hlt
        have s4 : (j < L.length) = False := by simp; omega
        go_wp2_with fail
        go_cut [5] (fun s5 wx => s5 = .bool true ∧ Hid (Fr V wx (fun _ => False)))
        case first =>
          go_region_held3 (fun W' => Hid (Fr V W' (fun _ => False)) ∧ W'.cell? ⟨g, j * 7, none⟩ = some (.int .i64 (-9)) ∧ W'.cell? ⟨g, j * 7 + 1, none⟩ = some (.string ⟨#[109, 97, 114, 107]⟩) ∧ W'.cell? ⟨g, j * 7 + 2, none⟩ = some (.int .i64 9) ∧ g < W'.heap.size)
            ((refine (fun h => ⟨h, HC0.out _ h⟩ : Fr V _ (fun _ => False) → _) ?_; repeat (first | with_reducible exact HF.out | with_reducible exact Fr.refl _ _ | with_reducible apply Fr.drew | with_reducible apply Fr.alloc)))
            (first
            | (go_at_call 25; (with_reducible refine (HM.out _).mono ?_); rintro e w2 ⟨rfl, hf⟩; have HF := hid (Fr.trans (a := V) (by repeat (first | with_reducible exact HF.out | with_reducible exact Fr.refl _ _ | with_reducible apply Fr.drew | with_reducible apply Fr.alloc)) hf); clear hf)
            | fail)
          all_goals (
            go_wp2_with fail
            go_meet
            refine ⟨by simp, (?_ : Fr V _ (fun _ => False))⟩
            repeat (first | with_reducible exact HF.out | with_reducible exact Fr.refl _ _ | with_reducible apply Fr.drew | with_reducible apply Fr.alloc))
        case rest =>
          obtain ⟨rfl, HFc⟩ := hcut
          have HRd := hid (HRj.out.fr HFc.out (fun h => h))
          have HFd := hid (HFj.out.trans (HFc.out.mono (T := fun b => b = g) (fun _ _ h => h.elim)))
          clear y0 y1 y2 yl
          generalize wc = V2 at *
          obtain ⟨x0, x1, x2, x3, x4, x5, x6⟩ := HEl.out V2 HRd.out
          have xf := HRd.out.free
          have xl := HRd.out.lt
          have HPt := hid (HRd.out.put (i := j) (by rw [keptL_len L j (by omega)]; omega) spR)
          rw [keptL_step L j hj3] at HPt
          have HFs := hid (fun (u0 u1 u2 u3 u4 u5 u6 : Value) => (((((((HFd.out.setCell (p := ⟨g, j * 7, none⟩) (fun _ => rfl) u0).setCell (p := ⟨g, j * 7 + 1, none⟩) (fun _ => rfl) u1).setCell (p := ⟨g, j * 7 + 2, none⟩) (fun _ => rfl) u2).setCell (p := ⟨g, j * 7 + 3, none⟩) (fun _ => rfl) u3).setCell (p := ⟨g, j * 7 + 4, none⟩) (fun _ => rfl) u4).setCell (p := ⟨g, j * 7 + 5, none⟩) (fun _ => rfl) u5).setCell (p := ⟨g, j * 7 + 6, none⟩) (fun _ => rfl) u6))
          generalize (keptL L j)[j]?.getD default = y at *
          unfold spR at HPt
          go_wp2_with fail
          go_roundg g2
          case measure => omega
          case rel => exact ⟨j + 1, rfl, by go_num, by have := HJ.out; omega, HPt, HFs.out _ _ _ _ _ _ _⟩
end Go.Proofs.Ytilgkfpicdmkkaa.M
