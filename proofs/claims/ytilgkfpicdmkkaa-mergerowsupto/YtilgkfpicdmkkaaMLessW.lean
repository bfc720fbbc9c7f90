import Derived.Test.YtilgkfpicdmkkaaMRest2W
import Derived.Deep.DeepCutAuto
import Derived.Deep.DeepMust
/- merge: a heap of rests: Less: a walk (lists of api.Row). -/
namespace Go.Proofs.Ytilgkfpicdmkkaa.M.W
open Go.RowKit
variable {S : Rt → Value}

def cmE (a b : Rw) : Int := cmpC a.c b.c
theorem cmE_cm : Cm cmE := ⟨fun a b => cmpC_flip a.c b.c, fun a b c h1 h2 => cmC.trans a.c b.c c.c h1 h2⟩
def fv : Value := .func (.func 27) #[] #[]
/-- An element at a place. -/
def ElAt (w : World) (b o : Nat) (r : Rw) : Prop := w.cell? ⟨b, o, none⟩ = some (.int .i64 r.c.v) ∧ w.cell? ⟨b, o + 1, none⟩ = some (.string r.c.k) ∧ w.cell? ⟨b, o + 2, none⟩ = some (.int .i64 r.c.s) ∧ w.cell? ⟨b, o + 3, none⟩ = some (.int .i64 r.n) ∧ w.cell? ⟨b, o + 4, none⟩ = some (.int .i64 r.s) ∧ w.cell? ⟨b, o + 5, none⟩ = some (.int .i64 r.m) ∧ w.cell? ⟨b, o + 6, none⟩ = some (.int .i64 r.x)
theorem ElAt.lt {w : World} {b o : Nat} {r : Rw} (h : ElAt w b o r) : b < w.heap.size := World.block_lt_of_cell? w _ h.1
theorem ElAt.fr {w w' : World} {b o : Nat} {r : Rw} (h : ElAt w b o r) (hf : Fr w w' (fun _ => False)) : ElAt w' b o r := by
  have hl := h.lt
  obtain ⟨h0, h1, h2, h3, h4, h5, h6⟩ := h
  have hr := (fr_rules hf).1
  exact ⟨(hr _ _ hl).trans h0, (hr _ _ hl).trans h1, (hr _ _ hl).trans h2, (hr _ _ hl).trans h3, (hr _ _ hl).trans h4, (hr _ _ hl).trans h5, (hr _ _ hl).trans h6⟩
/-- The front of a rest can be read. -/
def Hd (S : Rt → Value) (w : World) (r : Rt) : Prop := ∃ b o c, S r = .slice (some ⟨b, o, none⟩) r.l.length c ∧ 0 < r.l.length ∧ r.l.length ≤ 9223372036854775807 ∧ ElAt w b o r.hd
theorem Hd.fr {w w' : World} {r : Rt} (h : Hd S w r) (hf : Fr w w' (fun _ => False)) : Hd S w' r := by
  obtain ⟨b, o, c, h1, h2, h3, h4⟩ := h
  exact ⟨b, o, c, h1, h2, h3, h4.fr hf⟩
theorem ltR_or (x y : Rt) : ltR cmE x y = decide (orL [cmE x.hd y.hd, cmpI (x.p : Int) (y.p : Int)] < 0) := by
  unfold ltR orL orL orL
  by_cases h1 : cmE x.hd y.hd ≠ 0
  · rw [if_pos h1, if_pos h1]
  · rw [if_neg h1, if_neg h1]
    unfold cmpI
    by_cases h2 : x.p < y.p
    · have h2' : (x.p : Int) < (y.p : Int) := by omega
      simp [h2, h2']
    · have h2' : ¬ (x.p : Int) < (y.p : Int) := by omega
      by_cases h3 : y.p < x.p
      · have h3' : (y.p : Int) < (x.p : Int) := by omega
        simp [h2, h2', h3, h3']
      · have h3' : ¬ (y.p : Int) < (x.p : Int) := by omega
        simp [h2, h2', h3, h3']

set_option maxHeartbeats 2000000 in
set_option maxRecDepth 100000 in
theorem less_any {w0 wk : World} {B : Nat} {v : Value} {hs : List Rt} (i j : Nat) (hi : i < hs.length) (hj : j < hs.length) (w : World) (h : Rs S fv w0 wk w B v hs) (hx : Hd S w (at' hs i)) (hy : Hd S w (at' hs j)) :
    Calls Try.prog 73 #[.pointer (some ⟨B, 0, none⟩), .int .i64 (i : Int), .int .i64 (j : Int)] w fun e w' => e = .returned (.bool (ltR cmE (at' hs i) (at' hs j))) ∧ Fr w w' (fun _ => False) := by
  have hlen := h.len
  obtain ⟨g, cap, rest, rfl, hrow, hcap, hg, hm⟩ := own_rowR h.own (by omega)
  obtain ⟨c0, c1⟩ := cells2 h.cell
  obtain ⟨i0, i1⟩ := hrow.cells i hi
  obtain ⟨j0, j1⟩ := hrow.cells j hj
  have hlt := h.lt
  have hlg := hrow.lt
  clear h hrow
  have t1 : (i : Int) < (hs.length : Int) := by omega
  have t2 : (j : Int) < (hs.length : Int) := by omega
  rw [ltR_or]
  obtain ⟨bx, ox, cx, hsx, hnx, hmx, hex⟩ := hx
  obtain ⟨by', oy, cy, hsy, hny, hmy, hey⟩ := hy
  rw [hsx] at i1
  rw [hsy] at j1
  have HX := hid hex
  have HY := hid hey
  have hbx := hex.lt
  have hby := hey.lt
  clear hex hey
  have t3 : (0 : Int) < ((at' hs i).l.length : Int) := by omega
  have t4 : (0 : Int) < ((at' hs j).l.length : Int) := by omega
  have HC := hid (fun W => cmp_any ((at' hs i).p : Int) ((at' hs j).p : Int) W)
  generalize at' hs i = x at *
  generalize at' hs j = y at *
  generalize hq : cmpI (x.p : Int) (y.p : Int) = q at *
  have HD := hid (fun W => compareR_any x.hd y.hd W)
  have HE : Hid (cmE x.hd y.hd = cmpC x.hd.c y.hd.c) := rfl
  rw [← HE.out] at HD
  simp only [vR] at HD
  generalize cmE x.hd y.hd = d at *
  clear hq HE
  unfold fv at c0
  go_enter Try.func73, Try.ntmps73
  go_wp2_with fail
  go_cut [7, 8] (fun s7 s8 wx => ∃ a b, s7 = .pointer (some ⟨a, 0, none⟩) ∧ s8 = .pointer (some ⟨b, 0, none⟩) ∧ Hid (Fr w wx (fun _ => False) ∧ wx.heap[a]? = some (.cells #[.int .i64 (x.p : Int), .slice (some ⟨bx, ox, none⟩) x.l.length cx] 87 (0, 0)) ∧ wx.heap[b]? = some (.cells #[.int .i64 (y.p : Int), .slice (some ⟨by', oy, none⟩) y.l.length cy] 87 (0, 0))))
  case first =>
    go_region
    all_goals (go_wp2_with fail)
    all_goals go_meet
    · exact ⟨_, _, rfl, rfl, ((alloc_fr w _ _).alloc _).drew, by rw [(((Fr.refl _ (fun _ => False)).alloc _).drew).block _ (by simp) (fun h => h)]; exact heap_last _ _ _ rfl, heap_last _ _ _ (by simp)⟩
    · exact ⟨_, _, rfl, rfl, ((alloc_fr w _ _).alloc _).drew, heap_last _ _ _ (by simp), by rw [(((Fr.refl _ (fun _ => False)).alloc _).drew).block _ (by simp) (fun h => h)]; exact heap_last _ _ _ rfl⟩
  case rest =>
    obtain ⟨a, b, rfl, rfl, HQ⟩ := hcut
    have HC0 := hid (fun (W' : World) (hf : Fr wc W' (fun _ => False)) => (show W'.cell? ⟨a, 0, none⟩ = some (.int .i64 (x.p : Int)) ∧ W'.cell? ⟨a, 1, none⟩ = some (.slice (some ⟨bx, ox, none⟩) x.l.length cx) ∧ W'.cell? ⟨b, 0, none⟩ = some (.int .i64 (y.p : Int)) ∧ W'.cell? ⟨b, 1, none⟩ = some (.slice (some ⟨by', oy, none⟩) y.l.length cy) ∧ W'.cell? ⟨B, 0, none⟩ = some (.func (.func 27) #[] #[]) ∧ ElAt W' bx ox x.hd ∧ ElAt W' by' oy y.hd from by
      obtain ⟨q1, q2, q3⟩ := HQ.out
      obtain ⟨a0, a1⟩ := cells2 q2
      obtain ⟨b0, b1⟩ := cells2 q3
      have hr := (fr_rules hf).1
      have hr2 := (fr_rules (q1.trans hf)).1
      exact ⟨by rw [hr _ _ (lt_of_block q2)]; exact a0, by rw [hr _ _ (lt_of_block q2)]; exact a1, by rw [hr _ _ (lt_of_block q3)]; exact b0, by rw [hr _ _ (lt_of_block q3)]; exact b1, by rw [hr2 _ _ hlt]; exact c0, HX.out.fr (q1.trans hf), HY.out.fr (q1.trans hf)⟩))
    generalize R.hd x = ex at *
    generalize R.hd y = ey at *
    have HF := hid (Fr.refl wc (fun _ => False))
    have HF0 := hid HQ.out.1
    clear HQ i0 i1 j0 j1 c0 c1
    have HC1 := hid (fun (W' : World) (hf : Fr wc W' (fun _ => False)) => (show W'.cell? ⟨a, 0, none⟩ = some (.int .i64 (x.p : Int)) ∧ W'.cell? ⟨a, 1, none⟩ = some (.slice (some ⟨bx, ox, none⟩) x.l.length cx) ∧ W'.cell? ⟨b, 0, none⟩ = some (.int .i64 (y.p : Int)) ∧ W'.cell? ⟨b, 1, none⟩ = some (.slice (some ⟨by', oy, none⟩) y.l.length cy) ∧ W'.cell? ⟨B, 0, none⟩ = some (.func (.func 27) #[] #[]) ∧ W'.cell? ⟨bx, ox, none⟩ = some (.int .i64 ex.c.v) ∧ W'.cell? ⟨bx, ox + 1, none⟩ = some (.string ex.c.k) ∧ W'.cell? ⟨bx, ox + 2, none⟩ = some (.int .i64 ex.c.s) ∧ W'.cell? ⟨bx, ox + 3, none⟩ = some (.int .i64 ex.n) ∧ W'.cell? ⟨bx, ox + 4, none⟩ = some (.int .i64 ex.s) ∧ W'.cell? ⟨bx, ox + 5, none⟩ = some (.int .i64 ex.m) ∧ W'.cell? ⟨bx, ox + 6, none⟩ = some (.int .i64 ex.x) ∧ W'.cell? ⟨by', oy, none⟩ = some (.int .i64 ey.c.v) ∧ W'.cell? ⟨by', oy + 1, none⟩ = some (.string ey.c.k) ∧ W'.cell? ⟨by', oy + 2, none⟩ = some (.int .i64 ey.c.s) ∧ W'.cell? ⟨by', oy + 3, none⟩ = some (.int .i64 ey.n) ∧ W'.cell? ⟨by', oy + 4, none⟩ = some (.int .i64 ey.s) ∧ W'.cell? ⟨by', oy + 5, none⟩ = some (.int .i64 ey.m) ∧ W'.cell? ⟨by', oy + 6, none⟩ = some (.int .i64 ey.x) from by
      obtain ⟨q1, q2, q3, q4, q5, ⟨x0, x1, x2, x3, x4, x5, x6⟩, q7⟩ := HC0.out W' hf
      exact ⟨q1, q2, q3, q4, q5, x0, x1, x2, x3, x4, x5, x6, q7⟩))
    clear HC0
    go_wp2_with fail
    go_region_held3 (fun W' => Hid (Fr wc W' (fun _ => False)) ∧ W'.cell? ⟨a, 0, none⟩ = some (.int .i64 (x.p : Int)) ∧ W'.cell? ⟨a, 1, none⟩ = some (.slice (some ⟨bx, ox, none⟩) x.l.length cx) ∧ W'.cell? ⟨b, 0, none⟩ = some (.int .i64 (y.p : Int)) ∧ W'.cell? ⟨b, 1, none⟩ = some (.slice (some ⟨by', oy, none⟩) y.l.length cy) ∧ W'.cell? ⟨B, 0, none⟩ = some (.func (.func 27) #[] #[]) ∧ W'.cell? ⟨bx, ox, none⟩ = some (.int .i64 ex.c.v) ∧ W'.cell? ⟨bx, ox + 1, none⟩ = some (.string ex.c.k) ∧ W'.cell? ⟨bx, ox + 2, none⟩ = some (.int .i64 ex.c.s) ∧ W'.cell? ⟨bx, ox + 3, none⟩ = some (.int .i64 ex.n) ∧ W'.cell? ⟨bx, ox + 4, none⟩ = some (.int .i64 ex.s) ∧ W'.cell? ⟨bx, ox + 5, none⟩ = some (.int .i64 ex.m) ∧ W'.cell? ⟨bx, ox + 6, none⟩ = some (.int .i64 ex.x) ∧ W'.cell? ⟨by', oy, none⟩ = some (.int .i64 ey.c.v) ∧ W'.cell? ⟨by', oy + 1, none⟩ = some (.string ey.c.k) ∧ W'.cell? ⟨by', oy + 2, none⟩ = some (.int .i64 ey.c.s) ∧ W'.cell? ⟨by', oy + 3, none⟩ = some (.int .i64 ey.n) ∧ W'.cell? ⟨by', oy + 4, none⟩ = some (.int .i64 ey.s) ∧ W'.cell? ⟨by', oy + 5, none⟩ = some (.int .i64 ey.m) ∧ W'.cell? ⟨by', oy + 6, none⟩ = some (.int .i64 ey.x))
      ((refine (fun h => ⟨h, HC1.out _ h⟩ : Fr wc _ (fun _ => False) → _) ?_; repeat (first | with_reducible exact HF.out | with_reducible exact Fr.refl _ _ | with_reducible apply Fr.drew | with_reducible apply Fr.alloc)))
      (first
      | (go_at_call 31; refine (HC.out _).mono ?_; rintro e w1 ⟨rfl, rfl⟩)
      | (go_at_call 27; refine (HD.out _).mono ?_; rintro e w1 ⟨rfl, hf⟩; have HF := hid (Fr.trans (a := wc) (by repeat (first | with_reducible exact HF.out | with_reducible exact Fr.refl _ _ | with_reducible apply Fr.drew | with_reducible apply Fr.alloc)) hf); clear hf)
      | (go_at_call 49; with_reducible refine (or2n_any _ _ _).mono ?_; rintro e w1 ⟨rfl, rfl⟩)
      | (go_at_call 49; with_reducible refine (or2_any _ _ _).mono ?_; rintro e w1 ⟨rfl, rfl⟩)
      | fail)
    all_goals (
      go_wp2_with fail
      go_ret
      exact ⟨rfl, HF0.out.trans (by repeat (first | with_reducible exact HF.out | with_reducible exact Fr.refl _ _ | with_reducible apply Fr.drew | with_reducible apply Fr.alloc))⟩)
end Go.Proofs.Ytilgkfpicdmkkaa.M.W
