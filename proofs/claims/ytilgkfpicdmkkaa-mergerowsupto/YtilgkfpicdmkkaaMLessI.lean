import Derived.Test.YtilgkfpicdmkkaaMRest2I
import Derived.Deep.DeepCutAuto
import Derived.Deep.DeepMust
/- merge: a heap of rests: Less: a walk (lists of int). -/
namespace Go.Proofs.Ytilgkfpicdmkkaa.M.I
open Go.RowKit
variable {S : Rt → Value}

def cmE : Int → Int → Int := cmpI
theorem cmE_cm : Cm cmE := cmI
def fv : Value := .func (.func 31) #[] #[]
/-- An element at a place. -/
def ElAt (w : World) (b o : Nat) (x : Int) : Prop := w.cell? ⟨b, o, none⟩ = some (.int .i64 x)
theorem ElAt.lt {w : World} {b o : Nat} {x : Int} (h : ElAt w b o x) : b < w.heap.size := World.block_lt_of_cell? w _ h
theorem ElAt.fr {w w' : World} {b o : Nat} {x : Int} (h : ElAt w b o x) (hf : Fr w w' (fun _ => False)) : ElAt w' b o x := by
  have := h.lt
  unfold ElAt at *
  rw [(fr_rules hf).1 _ _ this]
  exact h
/-- The front of a rest can be read. -/
def Hd (S : Rt → Value) (w : World) (r : Rt) : Prop := ∃ b o c, S r = .slice (some ⟨b, o, none⟩) r.l.length c ∧ 0 < r.l.length ∧ r.l.length ≤ 9223372036854775807 ∧ ElAt w b o r.hd
theorem Hd.fr {w w' : World} {r : Rt} (h : Hd S w r) (hf : Fr w w' (fun _ => False)) : Hd S w' r := by
  obtain ⟨b, o, c, h1, h2, h3, h4⟩ := h
  exact ⟨b, o, c, h1, h2, h3, h4.fr hf⟩
theorem ltR_or (x y : Rt) : ltR cmE x y = decide (orL [cmE x.hd y.hd, cmpI (x.p : Int) (y.p : Int)] < 0) := by
  unfold ltR orL orL orL
  by_cases h1 : cmE x.hd y.hd ≠ 0
  · rw [if_pos h1, if_pos h1]
  · rw [if_neg h1, if_neg h1]
    unfold cmpI
    by_cases h2 : x.p < y.p
    · have h2' : (x.p : Int) < (y.p : Int) := by omega
      simp [h2, h2']
    · have h2' : ¬ (x.p : Int) < (y.p : Int) := by omega
      by_cases h3 : y.p < x.p
      · have h3' : (y.p : Int) < (x.p : Int) := by omega
        simp [h2, h2', h3, h3']
      · have h3' : ¬ (y.p : Int) < (x.p : Int) := by omega
        simp [h2, h2', h3, h3']

set_option maxHeartbeats 2000000 in
set_option maxRecDepth 100000 in
theorem less_any {w0 wk : World} {B : Nat} {v : Value} {hs : List Rt} (i j : Nat) (hi : i < hs.length) (hj : j < hs.length) (w : World) (h : Rs S fv w0 wk w B v hs) (hx : Hd S w (at' hs i)) (hy : Hd S w (at' hs j)) :
    Calls Try.prog 77 #[.pointer (some ⟨B, 0, none⟩), .int .i64 (i : Int), .int .i64 (j : Int)] w fun e w' => e = .returned (.bool (ltR cmE (at' hs i) (at' hs j))) ∧ Fr w w' (fun _ => False) := by
  have hlen := h.len
  obtain ⟨g, cap, rest, rfl, hrow, hcap, hg, hm⟩ := own_rowR h.own (by omega)
  obtain ⟨c0, c1⟩ := cells2 h.cell
  obtain ⟨i0, i1⟩ := hrow.cells i hi
  obtain ⟨j0, j1⟩ := hrow.cells j hj
  have hlt := h.lt
  have hlg := hrow.lt
  clear h hrow
  have t1 : (i : Int) < (hs.length : Int) := by omega
  have t2 : (j : Int) < (hs.length : Int) := by omega
  rw [ltR_or]
  obtain ⟨bx, ox, cx, hsx, hnx, hmx, hex⟩ := hx
  obtain ⟨by', oy, cy, hsy, hny, hmy, hey⟩ := hy
  rw [hsx] at i1
  rw [hsy] at j1
  have HX := hid hex
  have HY := hid hey
  have hbx := hex.lt
  have hby := hey.lt
  clear hex hey
  have t3 : (0 : Int) < ((at' hs i).l.length : Int) := by omega
  have t4 : (0 : Int) < ((at' hs j).l.length : Int) := by omega
  have HC := hid (fun W => cmp_any ((at' hs i).p : Int) ((at' hs j).p : Int) W)
  generalize at' hs i = x at *
  generalize at' hs j = y at *
  generalize hq : cmpI (x.p : Int) (y.p : Int) = q at *
  have HD := hid (fun W => cmp_any x.hd y.hd W)
  have HE : Hid (cmE x.hd y.hd = cmpI x.hd y.hd) := rfl
  rw [← HE.out] at HD
  generalize cmE x.hd y.hd = d at *
  clear hq HE
  unfold fv at c0
  go_enter Try.func77, Try.ntmps77
  go_wp2_with fail
  go_cut [7, 8] (fun s7 s8 wx => ∃ a b, s7 = .pointer (some ⟨a, 0, none⟩) ∧ s8 = .pointer (some ⟨b, 0, none⟩) ∧ Hid (Fr w wx (fun _ => False) ∧ wx.heap[a]? = some (.cells #[.int .i64 (x.p : Int), .slice (some ⟨bx, ox, none⟩) x.l.length cx] 95 (0, 0)) ∧ wx.heap[b]? = some (.cells #[.int .i64 (y.p : Int), .slice (some ⟨by', oy, none⟩) y.l.length cy] 95 (0, 0))))
  case first =>
    go_region
    all_goals (go_wp2_with fail)
    all_goals go_meet
    · exact ⟨_, _, rfl, rfl, ((alloc_fr w _ _).alloc _).drew, by rw [(((Fr.refl _ (fun _ => False)).alloc _).drew).block _ (by simp) (fun h => h)]; exact heap_last _ _ _ rfl, heap_last _ _ _ (by simp)⟩
    · exact ⟨_, _, rfl, rfl, ((alloc_fr w _ _).alloc _).drew, heap_last _ _ _ (by simp), by rw [(((Fr.refl _ (fun _ => False)).alloc _).drew).block _ (by simp) (fun h => h)]; exact heap_last _ _ _ rfl⟩
  case rest =>
    obtain ⟨a, b, rfl, rfl, HQ⟩ := hcut
    have HC0 := hid (fun (W' : World) (hf : Fr wc W' (fun _ => False)) => (show W'.cell? ⟨a, 0, none⟩ = some (.int .i64 (x.p : Int)) ∧ W'.cell? ⟨a, 1, none⟩ = some (.slice (some ⟨bx, ox, none⟩) x.l.length cx) ∧ W'.cell? ⟨b, 0, none⟩ = some (.int .i64 (y.p : Int)) ∧ W'.cell? ⟨b, 1, none⟩ = some (.slice (some ⟨by', oy, none⟩) y.l.length cy) ∧ W'.cell? ⟨B, 0, none⟩ = some (.func (.func 31) #[] #[]) ∧ ElAt W' bx ox x.hd ∧ ElAt W' by' oy y.hd from by
      obtain ⟨q1, q2, q3⟩ := HQ.out
      obtain ⟨a0, a1⟩ := cells2 q2
      obtain ⟨b0, b1⟩ := cells2 q3
      have hr := (fr_rules hf).1
      have hr2 := (fr_rules (q1.trans hf)).1
      exact ⟨by rw [hr _ _ (lt_of_block q2)]; exact a0, by rw [hr _ _ (lt_of_block q2)]; exact a1, by rw [hr _ _ (lt_of_block q3)]; exact b0, by rw [hr _ _ (lt_of_block q3)]; exact b1, by rw [hr2 _ _ hlt]; exact c0, HX.out.fr (q1.trans hf), HY.out.fr (q1.trans hf)⟩))
    generalize R.hd x = ex at *
    generalize R.hd y = ey at *
    have HF := hid (Fr.refl wc (fun _ => False))
    have HF0 := hid HQ.out.1
    clear HQ i0 i1 j0 j1 c0 c1
    unfold ElAt at HC0
    go_wp2_with fail
    go_region_held3 (fun W' => Hid (Fr wc W' (fun _ => False)) ∧ W'.cell? ⟨a, 0, none⟩ = some (.int .i64 (x.p : Int)) ∧ W'.cell? ⟨a, 1, none⟩ = some (.slice (some ⟨bx, ox, none⟩) x.l.length cx) ∧ W'.cell? ⟨b, 0, none⟩ = some (.int .i64 (y.p : Int)) ∧ W'.cell? ⟨b, 1, none⟩ = some (.slice (some ⟨by', oy, none⟩) y.l.length cy) ∧ W'.cell? ⟨B, 0, none⟩ = some (.func (.func 31) #[] #[]) ∧ W'.cell? ⟨bx, ox, none⟩ = some (.int .i64 ex) ∧ W'.cell? ⟨by', oy, none⟩ = some (.int .i64 ey))
      ((refine (fun h => ⟨h, HC0.out _ h⟩ : Fr wc _ (fun _ => False) → _) ?_; repeat (first | exact HF.out | exact Fr.refl _ _ | apply Fr.drew | apply Fr.alloc)))
      (first
      | (go_at_call 31; with_reducible refine (HC.out _).mono ?_; rintro e w1 ⟨rfl, rfl⟩)
      | (go_at_call 31; with_reducible refine (HD.out _).mono ?_; rintro e w1 ⟨rfl, rfl⟩)
      | (go_at_call 49; refine (or2_any _ _ _).mono ?_; rintro e w1 ⟨rfl, rfl⟩)
      | fail)
    all_goals (
      go_wp2_with fail
      go_ret
      exact ⟨rfl, HF0.out.trans (by repeat (first | exact Fr.refl _ _ | apply Fr.drew | apply Fr.alloc))⟩)
end Go.Proofs.Ytilgkfpicdmkkaa.M.I
