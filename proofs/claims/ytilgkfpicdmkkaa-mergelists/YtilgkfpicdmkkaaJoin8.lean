/- Texts of one proof, joined. -/
import Derived.Test.YtilgkfpicdmkkaaJoin7
import Derived.Deep.DeepCutAuto
import Derived.Deep.DeepMust
section
/- merge: a heap of rests: Less: a walk (lists of api.Row). -/
namespace Go.Proofs.Ytilgkfpicdmkkaa.M.W
open Go.RowKit
variable {S : Rt → Value}

def cmE (a b : Rw) : Int := cmpC a.c b.c
theorem cmE_cm : Cm cmE := ⟨fun a b => cmpC_flip a.c b.c, fun a b c h1 h2 => cmC.trans a.c b.c c.c h1 h2⟩
def fv : Value := .func (.func 27) #[] #[]
/-- An element at a place. -/
def ElAt (w : World) (b o : Nat) (r : Rw) : Prop := w.cell? ⟨b, o, none⟩ = some (.int .i64 r.c.v) ∧ w.cell? ⟨b, o + 1, none⟩ = some (.string r.c.k) ∧ w.cell? ⟨b, o + 2, none⟩ = some (.int .i64 r.c.s) ∧ w.cell? ⟨b, o + 3, none⟩ = some (.int .i64 r.n) ∧ w.cell? ⟨b, o + 4, none⟩ = some (.int .i64 r.s) ∧ w.cell? ⟨b, o + 5, none⟩ = some (.int .i64 r.m) ∧ w.cell? ⟨b, o + 6, none⟩ = some (.int .i64 r.x)
theorem ElAt.lt {w : World} {b o : Nat} {r : Rw} (h : ElAt w b o r) : b < w.heap.size := World.block_lt_of_cell? w _ h.1
theorem ElAt.fr {w w' : World} {b o : Nat} {r : Rw} (h : ElAt w b o r) (hf : Fr w w' (fun _ => False)) : ElAt w' b o r := by
  have hl := h.lt
  obtain ⟨h0, h1, h2, h3, h4, h5, h6⟩ := h
  have hr := (fr_rules hf).1
  exact ⟨(hr _ _ hl).trans h0, (hr _ _ hl).trans h1, (hr _ _ hl).trans h2, (hr _ _ hl).trans h3, (hr _ _ hl).trans h4, (hr _ _ hl).trans h5, (hr _ _ hl).trans h6⟩
/-- The front of a rest can be read. -/
def Hd (S : Rt → Value) (w : World) (r : Rt) : Prop := ∃ b o c, S r = .slice (some ⟨b, o, none⟩) r.l.length c ∧ 0 < r.l.length ∧ r.l.length ≤ 9223372036854775807 ∧ ElAt w b o r.hd
theorem Hd.fr {w w' : World} {r : Rt} (h : Hd S w r) (hf : Fr w w' (fun _ => False)) : Hd S w' r := by
  obtain ⟨b, o, c, h1, h2, h3, h4⟩ := h
  exact ⟨b, o, c, h1, h2, h3, h4.fr hf⟩
theorem ltR_or (x y : Rt) : ltR cmE x y = decide (orL [cmE x.hd y.hd, cmpI (x.p : Int) (y.p : Int)] < 0) := by
  unfold ltR orL orL orL
  by_cases h1 : cmE x.hd y.hd ≠ 0
  · rw [if_pos h1, if_pos h1]
  · rw [if_neg h1, if_neg h1]
    unfold cmpI
    by_cases h2 : x.p < y.p
    · have h2' : (x.p : Int) < (y.p : Int) := by omega
      simp [h2, h2']
    · have h2' : ¬ (x.p : Int) < (y.p : Int) := by omega
      by_cases h3 : y.p < x.p
      · have h3' : (y.p : Int) < (x.p : Int) := by omega
        simp [h2, h2', h3, h3']
      · have h3' : ¬ (y.p : Int) < (x.p : Int) := by omega
        simp [h2, h2', h3, h3']

set_option maxHeartbeats 2000000 in
set_option maxRecDepth 100000 in
theorem less_any {w0 wk : World} {B : Nat} {v : Value} {hs : List Rt} (i j : Nat) (hi : i < hs.length) (hj : j < hs.length) (w : World) (h : Rs S fv w0 wk w B v hs) (hx : Hd S w (at' hs i)) (hy : Hd S w (at' hs j)) :
    Calls Try.prog 73 #[.pointer (some ⟨B, 0, none⟩), .int .i64 (i : Int), .int .i64 (j : Int)] w fun e w' => e = .returned (.bool (ltR cmE (at' hs i) (at' hs j))) ∧ Fr w w' (fun _ => False) := by
  have hlen := h.len
  obtain ⟨g, cap, rest, rfl, hrow, hcap, hg, hm⟩ := own_rowR h.own (by omega)
  obtain ⟨c0, c1⟩ := cells2 h.cell
  obtain ⟨i0, i1⟩ := hrow.cells i hi
  obtain ⟨j0, j1⟩ := hrow.cells j hj
  have hlt := h.lt
  have hlg := hrow.lt
  clear h hrow
  have t1 : (i : Int) < (hs.length : Int) := by omega
  have t2 : (j : Int) < (hs.length : Int) := by omega
  rw [ltR_or]
  obtain ⟨bx, ox, cx, hsx, hnx, hmx, hex⟩ := hx
  obtain ⟨by', oy, cy, hsy, hny, hmy, hey⟩ := hy
  rw [hsx] at i1
  rw [hsy] at j1
  have HX := hid hex
  have HY := hid hey
  have hbx := hex.lt
  have hby := hey.lt
  clear hex hey
  have t3 : (0 : Int) < ((at' hs i).l.length : Int) := by omega
  have t4 : (0 : Int) < ((at' hs j).l.length : Int) := by omega
  have HC := hid (fun W => cmp_any ((at' hs i).p : Int) ((at' hs j).p : Int) W)
  generalize at' hs i = x at *
  generalize at' hs j = y at *
  generalize hq : cmpI (x.p : Int) (y.p : Int) = q at *
  have HD := hid (fun W => compareR_any x.hd y.hd W)
  have HE : Hid (cmE x.hd y.hd = cmpC x.hd.c y.hd.c) := rfl
  rw [← HE.out] at HD
  simp only [vR] at HD
  generalize cmE x.hd y.hd = d at *
  clear hq HE
  unfold fv at c0
  go_enter Try.func73, Try.ntmps73
  go_wp2_with fail
  go_cut [7, 8] (fun s7 s8 wx => ∃ a b, s7 = .pointer (some ⟨a, 0, none⟩) ∧ s8 = .pointer (some ⟨b, 0, none⟩) ∧ Hid (Fr w wx (fun _ => False) ∧ wx.heap[a]? = some (.cells #[.int .i64 (x.p : Int), .slice (some ⟨bx, ox, none⟩) x.l.length cx] 87 (0, 0)) ∧ wx.heap[b]? = some (.cells #[.int .i64 (y.p : Int), .slice (some ⟨by', oy, none⟩) y.l.length cy] 87 (0, 0))))
  case first =>
    go_region
    all_goals (go_wp2_with fail)
    all_goals go_meet
    · exact ⟨_, _, rfl, rfl, ((alloc_fr w _ _).alloc _).drew, by rw [(((Fr.refl _ (fun _ => False)).alloc _).drew).block _ (by simp) (fun h => h)]; exact heap_last _ _ _ rfl, heap_last _ _ _ (by simp)⟩
    · exact ⟨_, _, rfl, rfl, ((alloc_fr w _ _).alloc _).drew, heap_last _ _ _ (by simp), by rw [(((Fr.refl _ (fun _ => False)).alloc _).drew).block _ (by simp) (fun h => h)]; exact heap_last _ _ _ rfl⟩
  case rest =>
    obtain ⟨a, b, rfl, rfl, HQ⟩ := hcut
    have HC0 := hid (fun (W' : World) (hf : Fr wc W' (fun _ => False)) => (show W'.cell? ⟨a, 0, none⟩ = some (.int .i64 (x.p : Int)) ∧ W'.cell? ⟨a, 1, none⟩ = some (.slice (some ⟨bx, ox, none⟩) x.l.length cx) ∧ W'.cell? ⟨b, 0, none⟩ = some (.int .i64 (y.p : Int)) ∧ W'.cell? ⟨b, 1, none⟩ = some (.slice (some ⟨by', oy, none⟩) y.l.length cy) ∧ W'.cell? ⟨B, 0, none⟩ = some (.func (.func 27) #[] #[]) ∧ ElAt W' bx ox x.hd ∧ ElAt W' by' oy y.hd from by
      obtain ⟨q1, q2, q3⟩ := HQ.out
      obtain ⟨a0, a1⟩ := cells2 q2
      obtain ⟨b0, b1⟩ := cells2 q3
      have hr := (fr_rules hf).1
      have hr2 := (fr_rules (q1.trans hf)).1
      exact ⟨by rw [hr _ _ (lt_of_block q2)]; exact a0, by rw [hr _ _ (lt_of_block q2)]; exact a1, by rw [hr _ _ (lt_of_block q3)]; exact b0, by rw [hr _ _ (lt_of_block q3)]; exact b1, by rw [hr2 _ _ hlt]; exact c0, HX.out.fr (q1.trans hf), HY.out.fr (q1.trans hf)⟩))
    generalize R.hd x = ex at *
    generalize R.hd y = ey at *
    have HF := hid (Fr.refl wc (fun _ => False))
    have HF0 := hid HQ.out.1
    clear HQ i0 i1 j0 j1 c0 c1
    have HC1 := hid (fun (W' : World) (hf : Fr wc W' (fun _ => False)) => (show W'.cell? ⟨a, 0, none⟩ = some (.int .i64 (x.p : Int)) ∧ W'.cell? ⟨a, 1, none⟩ = some (.slice (some ⟨bx, ox, none⟩) x.l.length cx) ∧ W'.cell? ⟨b, 0, none⟩ = some (.int .i64 (y.p : Int)) ∧ W'.cell? ⟨b, 1, none⟩ = some (.slice (some ⟨by', oy, none⟩) y.l.length cy) ∧ W'.cell? ⟨B, 0, none⟩ = some (.func (.func 27) #[] #[]) ∧ W'.cell? ⟨bx, ox, none⟩ = some (.int .i64 ex.c.v) ∧ W'.cell? ⟨bx, ox + 1, none⟩ = some (.string ex.c.k) ∧ W'.cell? ⟨bx, ox + 2, none⟩ = some (.int .i64 ex.c.s) ∧ W'.cell? ⟨bx, ox + 3, none⟩ = some (.int .i64 ex.n) ∧ W'.cell? ⟨bx, ox + 4, none⟩ = some (.int .i64 ex.s) ∧ W'.cell? ⟨bx, ox + 5, none⟩ = some (.int .i64 ex.m) ∧ W'.cell? ⟨bx, ox + 6, none⟩ = some (.int .i64 ex.x) ∧ W'.cell? ⟨by', oy, none⟩ = some (.int .i64 ey.c.v) ∧ W'.cell? ⟨by', oy + 1, none⟩ = some (.string ey.c.k) ∧ W'.cell? ⟨by', oy + 2, none⟩ = some (.int .i64 ey.c.s) ∧ W'.cell? ⟨by', oy + 3, none⟩ = some (.int .i64 ey.n) ∧ W'.cell? ⟨by', oy + 4, none⟩ = some (.int .i64 ey.s) ∧ W'.cell? ⟨by', oy + 5, none⟩ = some (.int .i64 ey.m) ∧ W'.cell? ⟨by', oy + 6, none⟩ = some (.int .i64 ey.x) from by
      obtain ⟨q1, q2, q3, q4, q5, ⟨x0, x1, x2, x3, x4, x5, x6⟩, q7⟩ := HC0.out W' hf
      exact ⟨q1, q2, q3, q4, q5, x0, x1, x2, x3, x4, x5, x6, q7⟩))
    clear HC0
    go_wp2_with fail
    go_region_held3 (fun W' => Hid (Fr wc W' (fun _ => False)) ∧ W'.cell? ⟨a, 0, none⟩ = some (.int .i64 (x.p : Int)) ∧ W'.cell? ⟨a, 1, none⟩ = some (.slice (some ⟨bx, ox, none⟩) x.l.length cx) ∧ W'.cell? ⟨b, 0, none⟩ = some (.int .i64 (y.p : Int)) ∧ W'.cell? ⟨b, 1, none⟩ = some (.slice (some ⟨by', oy, none⟩) y.l.length cy) ∧ W'.cell? ⟨B, 0, none⟩ = some (.func (.func 27) #[] #[]) ∧ W'.cell? ⟨bx, ox, none⟩ = some (.int .i64 ex.c.v) ∧ W'.cell? ⟨bx, ox + 1, none⟩ = some (.string ex.c.k) ∧ W'.cell? ⟨bx, ox + 2, none⟩ = some (.int .i64 ex.c.s) ∧ W'.cell? ⟨bx, ox + 3, none⟩ = some (.int .i64 ex.n) ∧ W'.cell? ⟨bx, ox + 4, none⟩ = some (.int .i64 ex.s) ∧ W'.cell? ⟨bx, ox + 5, none⟩ = some (.int .i64 ex.m) ∧ W'.cell? ⟨bx, ox + 6, none⟩ = some (.int .i64 ex.x) ∧ W'.cell? ⟨by', oy, none⟩ = some (.int .i64 ey.c.v) ∧ W'.cell? ⟨by', oy + 1, none⟩ = some (.string ey.c.k) ∧ W'.cell? ⟨by', oy + 2, none⟩ = some (.int .i64 ey.c.s) ∧ W'.cell? ⟨by', oy + 3, none⟩ = some (.int .i64 ey.n) ∧ W'.cell? ⟨by', oy + 4, none⟩ = some (.int .i64 ey.s) ∧ W'.cell? ⟨by', oy + 5, none⟩ = some (.int .i64 ey.m) ∧ W'.cell? ⟨by', oy + 6, none⟩ = some (.int .i64 ey.x))
      ((refine (fun h => ⟨h, HC1.out _ h⟩ : Fr wc _ (fun _ => False) → _) ?_; repeat (first | with_reducible exact HF.out | with_reducible exact Fr.refl _ _ | with_reducible apply Fr.drew | with_reducible apply Fr.alloc)))
      (first
      | (go_at_call 31; refine (HC.out _).mono ?_; rintro e w1 ⟨rfl, rfl⟩)
      | (go_at_call 27; refine (HD.out _).mono ?_; rintro e w1 ⟨rfl, hf⟩; have HF := hid (Fr.trans (a := wc) (by repeat (first | with_reducible exact HF.out | with_reducible exact Fr.refl _ _ | with_reducible apply Fr.drew | with_reducible apply Fr.alloc)) hf); clear hf)
      | (go_at_call 49; with_reducible refine (or2n_any _ _ _).mono ?_; rintro e w1 ⟨rfl, rfl⟩)
      | (go_at_call 49; with_reducible refine (or2_any _ _ _).mono ?_; rintro e w1 ⟨rfl, rfl⟩)
      | fail)
    all_goals (
      go_wp2_with fail
      go_ret
      exact ⟨rfl, HF0.out.trans (by repeat (first | with_reducible exact HF.out | with_reducible exact Fr.refl _ _ | with_reducible apply Fr.drew | with_reducible apply Fr.alloc))⟩)
end Go.Proofs.Ytilgkfpicdmkkaa.M.W
end

section
/- container/heap over merge's rests: up, down, Push, Fix, Pop: walks (lists of api.Row). -/
namespace Go.Proofs.Ytilgkfpicdmkkaa.M.W
open Go.RowKit
variable {S : Rt → Value}

theorem Try.mLessW (v : Value) (w : World) : (Go.method 231 62 v "Less").run Try.prog w = .ok (73, v) w := by kernel_rfl
theorem Try.mSwapW (v : Value) (w : World) : (Go.method 231 62 v "Swap").run Try.prog w = .ok (76, v) w := by kernel_rfl
theorem Try.mLenW (v : Value) (w : World) : (Go.method 231 62 v "Len").run Try.prog w = .ok (28, v) w := by kernel_rfl
theorem Try.mPushW (v : Value) (w : World) : (Go.method 231 62 v "Push").run Try.prog w = .ok (75, v) w := by kernel_rfl
theorem Try.mPopW (v : Value) (w : World) : (Go.method 231 62 v "Pop").run Try.prog w = .ok (74, v) w := by kernel_rfl

/-- The rests' receiver as an interface. -/
abbrev hv (B : Nat) : Value := .iface 62 (.pointer (some ⟨B, 0, none⟩))
theorem par_tdiv (j : Nat) : Int.tdiv ((j : Int) - 1) 2 = ((par j : Nat) : Int) := by
  unfold par
  cases j with
  | zero => rfl
  | succ j =>
    have : (((j + 1 : Nat) : Int) - 1) = (j : Int) := by omega
    rw [this, Nat.add_sub_cancel]
    rfl
theorem mem_swap {hs : List Rt} {i j : Nat} (hi : i < hs.length) (hj : j < hs.length) {P : Rt → Prop} (h : ∀ r ∈ hs, P r) : ∀ r ∈ swap hs i j, P r := fun r hr => h r ((swap_perm hs i j hi hj).mem_iff.1 hr)

set_option maxHeartbeats 1000000 in
set_option maxRecDepth 100000 in
theorem up_any {w0 wk : World} {B : Nat} {v : Value} {hs : List Rt} (j : Nat) (hj : j < hs.length) (w : World) (h : Rs S fv w0 wk w B v hs) (hH : ∀ r ∈ hs, Hd S w0 r) (hS : ∀ r, ∃ a n c, S r = .slice a n c) :
    Calls Try.prog 48 #[hv B, .int .i64 (j : Int)] w fun e w' => e = .returned (.tuple #[]) ∧ Rs S fv w0 wk w' B v (up (ltR cmE) hs j) := by
  have hlen := h.len
  have m1 := Try.mLessW
  have m2 := Try.mSwapW
  have HR := hid h
  have HH := hid hH
  have HS := hid hS
  clear h hH hS
  go_enter Try.func48, Try.ntmps48
  go_wp2_with fail
  go_loopg [1] j (fun g s1 wx => ∃ (k : Nat) (xs : List Rt), s1 = .int .i64 (k : Int) ∧ k ≤ g ∧ k < hs.length ∧ xs.length = hs.length ∧ Hid (Rs S fv w0 wk wx B v xs) ∧ Hid (∀ r ∈ xs, Hd S w0 r) ∧ Hid (up (ltR cmE) xs k = up (ltR cmE) hs j))
  case atStart => exact ⟨j, hs, rfl, Nat.le_refl _, hj, rfl, HR, HH, rfl⟩
  case round =>
    obtain ⟨k, xs, rfl, hk, hkl, hxl, HX, HM, HU⟩ := hrel
    have hq := par_tdiv k
    have hpk : par k ≤ k := by unfold par; omega
    have HL := hid (fun W (hf : Fr wr W (fun _ => False)) => less_any k (par k) (by omega) (by omega) W (HX.out.step hf) ((HM.out _ (at_mem (by omega))).fr (HX.out.step hf).fr) ((HM.out _ (at_mem (by omega))).fr (HX.out.step hf).fr))
    have t5 : -1 ≤ (k : Int) - 1 := by omega
    have t6 : (k : Int) - 1 ≤ 1000000 := by omega
    by_cases hp : par k = k
    · have t7 : ((par k : Nat) : Int) = (k : Int) := by omega
      have HE := hid hp
      rw [t7] at hq
      clear hp HL t7
      go_wp2_with fail
      go_end0
      refine ⟨rfl, ?_⟩
      have hu := HU.out
      rw [up, dif_pos (Or.inl HE.out)] at hu
      rw [← hu]
      exact HX.out
    · have t7 : (((par k : Nat) : Int) == (k : Int)) = false := by simp; omega
      have HP := hid hp
      have hlt : par k < k := by omega
      generalize hpp : par k = p at *
      have HPP := hid hpp
      clear hpp
      cases hlr : ltR cmE (at' xs k) (at' xs p) with
      | false =>
        rw [hlr] at HL
        have HLR := hid hlr
        clear hlr
        go_wp2_with fail
        refine (HL.out _ (Fr.refl _ _)).mono ?_
        rintro e w1 ⟨rfl, hf1⟩
        have HF := hid hf1
        clear hf1
        go_wp2_with fail
        go_end0
        refine ⟨rfl, ?_⟩
        have hu := HU.out
        rw [up, dif_pos (Or.inr (by rw [HPP.out]; exact HLR.out))] at hu
        rw [← hu]
        exact HX.out.step HF.out
      | true =>
        rw [hlr] at HL
        have HLR := hid hlr
        clear hlr
        have HSw := hid (fun W (hf : Fr wr W (fun _ => False)) => swap_any p k (by omega) (by omega) HS.out W (HX.out.step hf))
        go_wp2_with fail
        refine (HL.out _ (Fr.refl _ _)).mono ?_
        rintro e w1 ⟨rfl, hf1⟩
        have HF := hid hf1
        clear hf1
        go_wp2_with fail
        refine (HSw.out _ HF.out).mono ?_
        rintro e w2 ⟨rfl, hx2⟩
        have HX2 := hid hx2
        clear hx2
        go_wp2_with fail
        go_roundg (gk - 1)
        case measure => omega
        case rel =>
          refine ⟨p, swap xs p k, rfl, by omega, by omega, by rw [swap_len]; exact hxl, HX2, mem_swap (by omega) (by omega) HM.out, ?_⟩
          have hu := HU.out
          rw [up, dif_neg (by rw [HPP.out]; rintro (h | h); exact HP.out h; rw [HLR.out] at h; cases h), HPP.out] at hu
          exact hu
end Go.Proofs.Ytilgkfpicdmkkaa.M.W
end

section
/- container/heap over merge's rests: down: a walk (lists of api.Row). -/
namespace Go.Proofs.Ytilgkfpicdmkkaa.M.W
open Go.RowKit
variable {S : Rt → Value}

set_option maxHeartbeats 1000000 in
set_option maxRecDepth 100000 in
theorem down_any {w0 wk : World} {B : Nat} {v : Value} {hs : List Rt} (i n : Nat) (hi : i ≤ 1000000) (hn : n ≤ hs.length) (w : World) (h : Rs S fv w0 wk w B v hs) (hH : ∀ r ∈ hs.take n, Hd S w0 r) (hS : ∀ r, ∃ a n c, S r = .slice a n c) :
    Calls Try.prog 52 #[hv B, .int .i64 (i : Int), .int .i64 (n : Int)] w fun e w' => e = .returned (.bool (decide (i < (down (ltR cmE) hs i n).2))) ∧ Rs S fv w0 wk w' B v (down (ltR cmE) hs i n).1 := by
  have hlen := h.len
  have m1 := Try.mLessW
  have m2 := Try.mSwapW
  have HR := hid h
  have HH : Hid (∀ k, k < n → Hd S w0 (at' hs k)) := fun k hk => hH _ (by
    rw [at_get (by omega)]
    have : (hs.take n)[k]'(by simp; omega) = hs[k] := by simp
    rw [← this]
    exact List.getElem_mem _)
  have HS := hid hS
  clear h hH hS
  go_enter Try.func52, Try.ntmps52
  go_wp2_with fail
  go_loopg [7] (n - i) (fun g s7 wx => ∃ (k : Nat) (xs : List Rt), s7 = .int .i64 (k : Int) ∧ n - k ≤ g ∧ k ≤ 1000000 ∧ xs.length = hs.length ∧ Hid (Rs S fv w0 wk wx B v xs) ∧ Hid (∀ q, q < n → Hd S w0 (at' xs q)) ∧ Hid (down (ltR cmE) xs k n = down (ltR cmE) hs i n))
  case atStart => exact ⟨i, hs, rfl, Nat.le_refl _, hi, rfl, HR, HH, rfl⟩
  case round =>
    obtain ⟨k, xs, rfl, hk, hkl, hxl, HX, HM, HU⟩ := hrel
    by_cases hc : 2 * k + 1 < n
    · obtain ⟨a, ha⟩ : ∃ a, a = 2 * k + 1 := ⟨_, rfl⟩
      obtain ⟨b, hb0⟩ : ∃ b, b = 2 * k + 2 := ⟨_, rfl⟩
      have HA := hid ha
      have HBb := hid hb0
      have t1 : ¬ (n : Int) ≤ (a : Int) := by omega
      have t2 : ¬ (a : Int) < 0 := by omega
      have e1 : 2 * (k : Int) + 1 = (a : Int) := by omega
      have e2 : (a : Int) + 1 = (b : Int) := by omega
      have t4 : (k : Int) < (n : Int) := by omega
      have hkn : k < n := by omega
      have han : a < n := by omega
      have HL := hid (fun a b (ha : a < n) (hb : b < n) W (hf : Fr wr W (fun _ => False)) => less_any a b (by omega) (by omega) W (HX.out.step hf) ((HM.out a ha).fr (HX.out.step hf).fr) ((HM.out b hb).fr (HX.out.step hf).fr))
      by_cases h2 : b < n
      · have t3 : (b : Int) < (n : Int) := by omega
        have HL1 := hid (HL.out b a h2 han)
        cases hb : ltR cmE (at' xs b) (at' xs a) with
        | false =>
          have HK : Hid (kid (ltR cmE) xs k n = a) := by
            show kid (ltR cmE) xs k n = a
            unfold kid
            rw [← hb0, ← ha, if_neg (by rw [hb]; rintro ⟨_, h⟩; cases h)]
          have HL2 := hid (HL.out a k han hkn)
          rw [hb] at HL1
          clear hb HL ha hb0 hc
          cases hlr : ltR cmE (at' xs a) (at' xs k) with
          | false =>
            rw [hlr] at HL2
            have HD : Hid (down (ltR cmE) hs i n = (xs, k)) := by
              have hu := HU.out
              rw [down, dif_pos (Or.inr (by rw [HK.out]; exact hlr))] at hu
              exact hu.symm
            clear hlr
            go_wp2_with fail
            refine (HL1.out _ (Fr.refl _ _)).mono ?_
            rintro e w1 ⟨rfl, hf1⟩
            have HF := hid hf1
            clear hf1
            go_wp2_with fail
            refine (HL2.out _ HF.out).mono ?_
            rintro e w2 ⟨rfl, hf2⟩
            have HF2 := hid (HF.out.trans hf2)
            clear hf2
            go_wp2_with fail
            go_ret
            rw [HD.out]
            refine ⟨?_, HX.out.step HF2.out⟩
            congr 2
          | true =>
            rw [hlr] at HL2
            have HD : Hid (down (ltR cmE) (swap xs k a) a n = down (ltR cmE) hs i n) := by
              have hu := HU.out
              have h1 := HA.out
              rw [down, dif_neg (by rw [HK.out, hlr]; rintro (h | h); omega; cases h), HK.out] at hu
              exact hu
            clear hlr
            have HSw := hid (fun W (hf : Fr wr W (fun _ => False)) => swap_any k a (by omega) (by omega) HS.out W (HX.out.step hf))
            go_wp2_with fail
            refine (HL1.out _ (Fr.refl _ _)).mono ?_
            rintro e w1 ⟨rfl, hf1⟩
            have HF := hid hf1
            clear hf1
            go_wp2_with fail
            refine (HL2.out _ HF.out).mono ?_
            rintro e w2 ⟨rfl, hf2⟩
            have HF2 := hid (HF.out.trans hf2)
            clear hf2
            go_wp2_with fail
            refine (HSw.out _ HF2.out).mono ?_
            rintro e w3 ⟨rfl, hx3⟩
            have HX3 := hid hx3
            clear hx3
            go_wp2_with fail
            go_roundg (gk - 1)
            case measure => have := HA.out; omega
            case rel =>
              have h1 := HA.out
              have h2 := HBb.out
              refine ⟨a, swap xs k a, rfl, by omega, by omega, by rw [swap_len]; exact hxl, HX3, fun q hq => ?_, HD⟩
              rw [at_swap (by omega) (by omega)]
              split
              · exact HM.out k (by omega)
              · split
                · exact HM.out a (by omega)
                · exact HM.out q hq
        | true =>
          have HK : Hid (kid (ltR cmE) xs k n = b) := by
            show kid (ltR cmE) xs k n = b
            unfold kid
            rw [← hb0, ← ha, if_pos ⟨h2, hb⟩]
          have HL2 := hid (HL.out b k h2 hkn)
          rw [hb] at HL1
          clear hb HL ha hb0 hc
          cases hlr : ltR cmE (at' xs b) (at' xs k) with
          | false =>
            rw [hlr] at HL2
            have HD : Hid (down (ltR cmE) hs i n = (xs, k)) := by
              have hu := HU.out
              rw [down, dif_pos (Or.inr (by rw [HK.out]; exact hlr))] at hu
              exact hu.symm
            clear hlr
            go_wp2_with fail
            refine (HL1.out _ (Fr.refl _ _)).mono ?_
            rintro e w1 ⟨rfl, hf1⟩
            have HF := hid hf1
            clear hf1
            go_wp2_with fail
            refine (HL2.out _ HF.out).mono ?_
            rintro e w2 ⟨rfl, hf2⟩
            have HF2 := hid (HF.out.trans hf2)
            clear hf2
            go_wp2_with fail
            go_ret
            rw [HD.out]
            refine ⟨?_, HX.out.step HF2.out⟩
            congr 2
          | true =>
            rw [hlr] at HL2
            have HD : Hid (down (ltR cmE) (swap xs k b) b n = down (ltR cmE) hs i n) := by
              have hu := HU.out
              have h1 := HA.out
              rw [down, dif_neg (by rw [HK.out, hlr]; rintro (h | h); omega; cases h), HK.out] at hu
              exact hu
            clear hlr
            have HSw := hid (fun W (hf : Fr wr W (fun _ => False)) => swap_any k b (by omega) (by omega) HS.out W (HX.out.step hf))
            go_wp2_with fail
            refine (HL1.out _ (Fr.refl _ _)).mono ?_
            rintro e w1 ⟨rfl, hf1⟩
            have HF := hid hf1
            clear hf1
            go_wp2_with fail
            refine (HL2.out _ HF.out).mono ?_
            rintro e w2 ⟨rfl, hf2⟩
            have HF2 := hid (HF.out.trans hf2)
            clear hf2
            go_wp2_with fail
            refine (HSw.out _ HF2.out).mono ?_
            rintro e w3 ⟨rfl, hx3⟩
            have HX3 := hid hx3
            clear hx3
            go_wp2_with fail
            go_roundg (gk - 1)
            case measure => have := HA.out; omega
            case rel =>
              have h1 := HA.out
              have h2 := HBb.out
              refine ⟨b, swap xs k b, rfl, by omega, by omega, by rw [swap_len]; exact hxl, HX3, fun q hq => ?_, HD⟩
              rw [at_swap (by omega) (by omega)]
              split
              · exact HM.out k (by omega)
              · split
                · exact HM.out b (by omega)
                · exact HM.out q hq
      · have t3 : ¬ (b : Int) < (n : Int) := by omega
        have HK : Hid (kid (ltR cmE) xs k n = a) := by
          show kid (ltR cmE) xs k n = a
          unfold kid
          rw [← hb0, ← ha, if_neg (by rintro ⟨h, _⟩; exact h2 h)]
        have HL2 := hid (HL.out a k han hkn)
        clear HL ha hb0 hc
        cases hlr : ltR cmE (at' xs a) (at' xs k) with
        | false =>
          rw [hlr] at HL2
          have HD : Hid (down (ltR cmE) hs i n = (xs, k)) := by
            have hu := HU.out
            rw [down, dif_pos (Or.inr (by rw [HK.out]; exact hlr))] at hu
            exact hu.symm
          clear hlr
          have HF := hid (Fr.refl wr (fun _ => False))
          go_wp2_with fail
          refine (HL2.out _ HF.out).mono ?_
          rintro e w2 ⟨rfl, hf2⟩
          have HF2 := hid (HF.out.trans hf2)
          clear hf2
          go_wp2_with fail
          go_ret
          rw [HD.out]
          refine ⟨?_, HX.out.step HF2.out⟩
          congr 2
        | true =>
          rw [hlr] at HL2
          have HD : Hid (down (ltR cmE) (swap xs k a) a n = down (ltR cmE) hs i n) := by
            have hu := HU.out
            have h1 := HA.out
            rw [down, dif_neg (by rw [HK.out, hlr]; rintro (h | h); omega; cases h), HK.out] at hu
            exact hu
          clear hlr
          have HSw := hid (fun W (hf : Fr wr W (fun _ => False)) => swap_any k a (by omega) (by omega) HS.out W (HX.out.step hf))
          have HF := hid (Fr.refl wr (fun _ => False))
          go_wp2_with fail
          refine (HL2.out _ HF.out).mono ?_
          rintro e w2 ⟨rfl, hf2⟩
          have HF2 := hid (HF.out.trans hf2)
          clear hf2
          go_wp2_with fail
          refine (HSw.out _ HF2.out).mono ?_
          rintro e w3 ⟨rfl, hx3⟩
          have HX3 := hid hx3
          clear hx3
          go_wp2_with fail
          go_roundg (gk - 1)
          case measure => have := HA.out; omega
          case rel =>
            have h1 := HA.out
            have h2 := HBb.out
            refine ⟨a, swap xs k a, rfl, by omega, by omega, by rw [swap_len]; exact hxl, HX3, fun q hq => ?_, HD⟩
            rw [at_swap (by omega) (by omega)]
            split
            · exact HM.out k (by omega)
            · split
              · exact HM.out a (by omega)
              · exact HM.out q hq
    · have t1 : (n : Int) ≤ 2 * (k : Int) + 1 := by omega
      have HD : Hid (down (ltR cmE) hs i n = (xs, k)) := by
        have hu := HU.out
        rw [down, dif_pos (Or.inl (by omega))] at hu
        exact hu.symm
      clear hc
      go_wp2_with fail
      go_ret
      rw [HD.out]
      refine ⟨?_, HX.out⟩
      congr 2
end Go.Proofs.Ytilgkfpicdmkkaa.M.W
end

section
/- container/heap over merge's rests: Push, Fix, Pop: walks (lists of api.Row). -/
namespace Go.Proofs.Ytilgkfpicdmkkaa.M.W
open Go.RowKit
variable {S : Rt → Value}

set_option maxHeartbeats 1000000 in
set_option maxRecDepth 100000 in
theorem hpush_any {w0 wk : World} {B : Nat} {v : Value} {hs : List Rt} (x : Rt) (w : World) (h : Rs S fv w0 wk w B v hs) (hH : ∀ r ∈ hs, Hd S w0 r) (hx : Hd S w0 x) (hS : ∀ r, ∃ a n c, S r = .slice a n c) (hl : hs.length < 1000000) :
    Calls Try.prog 42 #[hv B, .iface 87 (.agg #[.int .i64 (x.p : Int), S x])] w fun e w' => e = .returned (.tuple #[]) ∧ ∃ v', Rs S fv w0 wk w' B v' (up (ltR cmE) (hs ++ [x]) hs.length) := by
  have HP := hid (push_any x (hS x) w h hl)
  have HH := hid hH
  have HX := hid hx
  have HS := hid hS
  have m1 := Try.mPushW
  have m2 := Try.mLenW
  obtain ⟨ax, nx, cx, hsx⟩ := hS x
  rw [hsx] at HP ⊢
  clear h hH hx hS
  go_enter Try.func42, Try.ntmps42
  go_wp2_with fail
  refine HP.out.mono ?_
  rintro e w1 ⟨rfl, v', hr⟩
  have HR := hid hr
  have HL := hid (len_any w1 hr)
  have hll : (hs ++ [x]).length = hs.length + 1 := by simp
  rw [hll] at HL
  have t1 : ((hs.length + 1 : Nat) : Int) - 1 = (hs.length : Int) := by omega
  have HU := hid (up_any hs.length (by omega) w1 hr (fun r hr => by
    rcases List.mem_append.1 hr with h | h
    · exact HH.out r h
    · rw [List.mem_singleton.1 h]; exact HX.out) HS.out)
  clear hr hll
  go_wp2_with fail
  refine HL.out.mono ?_
  rintro e w2 ⟨rfl, rfl⟩
  go_wp2_with fail
  refine HU.out.mono ?_
  rintro e w3 ⟨rfl, hr3⟩
  have HR3 := hid hr3
  clear hr3
  go_wp2_with fail
  go_end0
  exact ⟨rfl, _, HR3.out⟩

theorem up_zero (xs : List Rt) : up (ltR cmE) xs 0 = xs := by
  rw [up, dif_pos (Or.inl (show par 0 = 0 from rfl))]

set_option maxHeartbeats 1000000 in
set_option maxRecDepth 100000 in
theorem fix_any {w0 wk : World} {B : Nat} {v : Value} {hs : List Rt} (w : World) (h : Rs S fv w0 wk w B v hs) (hH : ∀ r ∈ hs, Hd S w0 r) (hS : ∀ r, ∃ a n c, S r = .slice a n c) (hl : 0 < hs.length) :
    Calls Try.prog 44 #[hv B, .int .i64 0] w fun e w' => e = .returned (.tuple #[]) ∧ Rs S fv w0 wk w' B v (down (ltR cmE) hs 0 hs.length).1 := by
  have HL := hid (len_any w h)
  have HD := hid (down_any 0 hs.length (by omega) (Nat.le_refl _) w h (fun r hr => hH r (List.mem_of_mem_take hr)) hS)
  have HU := hid (fun W (h' : Rs S fv w0 wk W B v (down (ltR cmE) hs 0 hs.length).1) => up_any 0 (by rw [down_len _ _ _ _ rfl]; exact hl) W h' (fun r hr => hH r ((down_perm _ _ _ _ rfl (Nat.le_refl _)).mem_iff.1 hr)) hS)
  rw [up_zero] at HU
  generalize down (ltR cmE) hs 0 hs.length = d at *
  obtain ⟨ys, k⟩ := d
  have m2 := Try.mLenW
  clear h hH hS
  by_cases hk : 0 < k
  · have t1 : decide (0 < k) = true := by simpa using hk
    rw [t1] at HD
    clear t1
    go_enter Try.func44, Try.ntmps44
    go_wp2_with fail
    refine HL.out.mono ?_
    rintro e w1 ⟨rfl, rfl⟩
    go_wp2_with fail
    refine HD.out.mono ?_
    rintro e w2 ⟨rfl, hr⟩
    have HR := hid hr
    clear hr
    go_wp2_with fail
    go_end0
    exact ⟨rfl, HR.out⟩
  · have t1 : decide (0 < k) = false := by simpa using hk
    rw [t1] at HD
    clear t1
    go_enter Try.func44, Try.ntmps44
    go_wp2_with fail
    refine HL.out.mono ?_
    rintro e w1 ⟨rfl, rfl⟩
    go_wp2_with fail
    refine HD.out.mono ?_
    rintro e w2 ⟨rfl, hr⟩
    have HU2 := hid (HU.out _ hr)
    clear hr
    go_wp2_with fail
    refine HU2.out.mono ?_
    rintro e w3 ⟨rfl, hr⟩
    have HR := hid hr
    clear hr
    go_wp2_with fail
    go_end0
    exact ⟨rfl, HR.out⟩

theorem mem_pop {y : Rt} {xs : List Rt} : ∀ r ∈ (swap (y :: xs) 0 xs.length).take xs.length, r ∈ xs := by
  intro r hr
  obtain ⟨k, hk, e⟩ := List.mem_iff_getElem.1 hr
  have hk1 : k < xs.length := by simp at hk; omega
  have e2 : at' (swap (y :: xs) 0 xs.length) k = r := by
    rw [at_get (by rw [swap_len]; simp; omega)]
    rw [← e]
    simp
  rw [at_swap (by simp) (by simp), if_neg (by omega)] at e2
  split at e2
  · rw [← e2]
    cases hx : xs with
    | nil => rw [hx] at hk1; simp at hk1
    | cons z zs =>
      have : at' (y :: z :: zs) (z :: zs).length = at' (z :: zs) zs.length := rfl
      rw [this]
      exact at_mem (by simp)
  · rw [← e2]
    cases k with
    | zero => rename_i h; exact absurd rfl h
    | succ k =>
      have : at' (y :: xs) (k + 1) = at' xs k := rfl
      rw [this]
      exact at_mem (by omega)

set_option maxHeartbeats 1000000 in
set_option maxRecDepth 100000 in
theorem hpop_any {w0 wk : World} {B : Nat} {v : Value} {y : Rt} {xs : List Rt} (w : World) (h : Rs S fv w0 wk w B v (y :: xs)) (hH : ∀ r ∈ xs, Hd S w0 r) (hS : ∀ r, ∃ a n c, S r = .slice a n c) :
    Calls Try.prog 45 #[hv B] w fun e w' => (∃ x, e = .returned x) ∧ ∃ v', Rs S fv w0 wk w' B v' (popH (ltR cmE) (y :: xs)) := by
  have HL := hid (len_any w h)
  have HSw := hid (swap_any 0 xs.length (by simp) (by simp) hS w h)
  have HD := hid (fun W (h' : Rs S fv w0 wk W B v (swap (y :: xs) 0 xs.length)) => down_any 0 xs.length (by omega) (by rw [swap_len]; simp) W h' (fun r hr => hH r (mem_pop r hr)) hS)
  have HP := hid (fun W (h' : Rs S fv w0 wk W B v (down (ltR cmE) (swap (y :: xs) 0 xs.length) 0 xs.length).1) => pop_any hS W h' (by rw [down_len _ _ _ _ rfl, swap_len]; simp))
  have hlen := h.len
  simp only [List.length_cons] at hlen
  have hpe : popH (ltR cmE) (y :: xs) = (down (ltR cmE) (swap (y :: xs) 0 xs.length) 0 xs.length).1.dropLast := rfl
  rw [hpe]
  generalize down (ltR cmE) (swap (y :: xs) 0 xs.length) 0 xs.length = d at *
  have hl1 : (y :: xs).length = xs.length + 1 := rfl
  rw [hl1] at HL
  have t1 : ((xs.length + 1 : Nat) : Int) - 1 = (xs.length : Int) := by omega
  have m1 := Try.mLenW
  have m2 := Try.mSwapW
  have m3 := Try.mPopW
  clear h hH hS hl1 hpe
  go_enter Try.func45, Try.ntmps45
  go_wp2_with fail
  refine HL.out.mono ?_
  rintro e w1 ⟨rfl, rfl⟩
  go_wp2_with fail
  refine HSw.out.mono ?_
  rintro e w2 ⟨rfl, hr⟩
  have HD2 := hid (HD.out _ hr)
  clear hr
  go_wp2_with fail
  refine HD2.out.mono ?_
  rintro e w3 ⟨rfl, hr⟩
  have HP2 := hid (HP.out _ hr)
  clear hr
  go_wp2_with fail
  refine HP2.out.mono ?_
  rintro e w4 ⟨⟨x, rfl⟩, v', hr⟩
  have HR := hid hr
  clear hr
  go_wp2_with fail
  go_ret
  exact ⟨⟨_, rfl⟩, _, HR.out⟩
end Go.Proofs.Ytilgkfpicdmkkaa.M.W
end

section
/- merge: take: a walk (lists of api.Row). -/
namespace Go.Proofs.Ytilgkfpicdmkkaa.M.W
open Go.RowKit
variable {S : Rt → Value}

/-- The heap behind a take. -/
def takeH : List Rt → List Rt
  | [] => []
  | x :: xs => if x.l.tail.isEmpty then popH (ltR cmE) (⟨x.p, []⟩ :: xs) else (down (ltR cmE) (⟨x.p, x.l.tail⟩ :: xs) 0 (xs.length + 1)).1
abbrev eV (x : Rw) : Value := .agg #[.int .i64 x.c.v, .string x.c.k, .int .i64 x.c.s, .int .i64 x.n, .int .i64 x.s, .int .i64 x.m, .int .i64 x.x]

theorem Rs.put1 {f : Value} {w0 wk w : World} {B g cap : Nat} {x y : Rt} {xs : List Rt} (h : Rs S f w0 wk w B (.slice (some ⟨g, 0, none⟩) (xs.length + 1) cap) (x :: xs)) (hp : y.p = x.p) : Rs S f w0 wk (w.setCell ⟨g, 1, none⟩ (S y)) B (.slice (some ⟨g, 0, none⟩) (xs.length + 1) cap) (y :: xs) := by
  obtain ⟨g', cap', rest, e, hrow, hcap, hg, hm⟩ := own_rowR h.own (by simp)
  simp only [Value.slice.injEq, Option.some.injEq, Addr.mk.injEq, and_true, true_and, List.length_cons] at e
  obtain ⟨rfl, rfl⟩ := e
  have hne : B ≠ g := fun e => h.ne (by rw [e]; rfl)
  have hr : RowR S (w.setCell ⟨g, 1, none⟩ (S y)) g (y :: xs) rest := by
    have h1 := heap_setCell_same w g 1 _ _ (S y) hrow
    unfold RowR
    rw [h1]
    refine congrArg (fun a => Option.some (Obj.cells a 87 (0, 0))) (Array.ext' ?_)
    simp [vc, hp]
  have ho := rowR_own (base := w0.heap.size) (cap := cap) hr hg (by simpa using hcap) hm (xs.length + 1) (by simp)
  rw [List.take_of_length_le (by simp)] at ho
  refine ⟨?_, ho, h.fr.setCell (p := ⟨g, 1, none⟩) (fun hh => by simp only at hh; omega) _, h.hB, by have := h.len; simpa using this, h.kpT (((Fr.refl w (fun k => k = B ∨ (Value.slice (some ⟨g, 0, none⟩) (xs.length + 1) cap).ownBlock = some k)).setCell (p := ⟨g, 1, none⟩) (fun _ => Or.inr rfl) _))⟩
  rw [((Fr.refl w (fun k => k = g)).setCell (p := ⟨g, 1, none⟩) (fun _ => rfl) _).block B h.lt hne]
  exact h.cell

theorem Rs.again {f : Value} {w0 wk W : World} {B : Nat} {v : Value} {hs : List Rt} (h : Rs S f w0 wk W B v hs) : Rs S f w0 W W B v hs := ⟨h.cell, h.own, h.fr, h.hB, h.len, Kps.refl W⟩
theorem setsz (w : World) (p : Addr) (u : Value) : (w.setCell p u).heap.size = w.heap.size := by simp [World.setCell]
/-- Behind a take: the item's block, the result's, and what stays when the result is stored. -/
theorem takeEnd {w0 wk wp w1 : World} {B : Nat} {vp v : Value} {hp hs : List Rt} (hP : Rs S fv w0 wk wp B vp hp) (r : Rw)
    (hr : Rs S fv w0 ((wp.alloc (.cells #[.int .i64 0, .string ⟨#[]⟩, .int .i64 0, .int .i64 0, .int .i64 0, .int .i64 0, .int .i64 0] 54)).alloc (.cells #[.int .i64 r.c.v, .string r.c.k, .int .i64 r.c.s, .int .i64 r.n, .int .i64 r.s, .int .i64 r.m, .int .i64 r.x] 54)) w1 B v hs) :
    w1.heap[wp.heap.size]? = some (.cells #[.int .i64 0, .string ⟨#[]⟩, .int .i64 0, .int .i64 0, .int .i64 0, .int .i64 0, .int .i64 0] 54 (0, 0)) ∧
    w1.heap[wp.heap.size + 1]? = some (.cells #[.int .i64 r.c.v, .string r.c.k, .int .i64 r.c.s, .int .i64 r.n, .int .i64 r.s, .int .i64 r.m, .int .i64 r.x] 54 (0, 0)) ∧
    ∀ w', Fr w1 w' (fun k => k = wp.heap.size) → Rs S fv w0 wk w' B v hs := by
  have h1 := hr.kp wp.heap.size _ _ _ ((Below.heap_alloc _ _ _ (by simp)).trans (heap_last _ _ _ rfl)) (by decide) (by decide)
  have h2 := hr.kp (wp.heap.size + 1) _ _ _ (heap_last _ _ _ (by simp)) (by decide) (by decide)
  refine ⟨h1, h2, fun w' hf => ?_⟩
  have hnB : ¬ B = wp.heap.size := fun e => by
    have := hP.lt
    omega
  refine ⟨by rw [hf.block B hr.lt hnB]; exact hr.cell, own_fr hr.own hf (fun k hk e => ?_), hr.fr.trans2 hf (fun i hi e => ?_), hr.hB, hr.len, ?_⟩
  · rw [e] at hk
    exact own_ne hr.own h1 (by decide) hk
  · have := hP.fr.size
    omega
  · intro k cs e z g1 g2 g3
    have g4 := hP.kp k cs e z g1 g2 g3
    have hlt := lt_of_block g4
    have g5 := hr.kp k cs e z ((((alloc_fr wp _ (fun _ => False)).alloc _).block k hlt (fun h => h)).trans g4) g2 g3
    rw [hf.block k (lt_of_block g5) (by omega)]
    exact g5

set_option maxHeartbeats 1000000 in
set_option maxRecDepth 100000 in
theorem take_any {w0 wk : World} {B : Nat} {v : Value} {x : Rt} {xs : List Rt} (w : World) (h : Rs S fv w0 wk w B v (x :: xs)) (hH : ∀ r ∈ xs, Hd S w0 r) (hx : Hd S w0 x) (hS : ∀ r, ∃ a n c, S r = .slice a n c)
    (hT : ∀ b o c, S x = .slice (some ⟨b, o, none⟩) x.l.length c → x.l.length ≤ c ∧ S ⟨x.p, x.l.tail⟩ = .slice (some ⟨b, if c = 1 then o else o + 7, none⟩) (x.l.length - 1) (c - 1)) (hHt : x.l.tail ≠ [] → Hd S w0 ⟨x.p, x.l.tail⟩) :
    Calls Try.prog 29 #[.pointer (some ⟨B, 0, none⟩)] w fun e w' => e = .returned (eV x.hd) ∧ ∃ v', Rs S fv w0 wk w' B v' (takeH (x :: xs)) := by
  have hlen := h.len
  obtain ⟨g, cap, rest, rfl, hrow, hcap, hg, hm⟩ := own_rowR h.own (by simp)
  obtain ⟨_, c1⟩ := cells2 h.cell
  obtain ⟨i0, i1⟩ := hrow.cells 0 (by simp)
  have f1 := hrow.free 1
  have hlt := h.lt
  have hlg := hrow.lt
  have hgB : g ≠ B := fun e => h.ne (by rw [e]; rfl)
  obtain ⟨b, o, c, hsx, hn0, hnm, hel⟩ := hx
  obtain ⟨hnc, hst⟩ := hT b o c hsx
  have HEl := hid (hel.fr h.fr)
  have hbl := (hel.fr h.fr).lt
  have hbg : b ≠ g := fun e => by have := hel.lt; omega
  have HPut := hid (h.put1 (y := ⟨x.p, x.l.tail⟩) rfl)
  rw [hst] at HPut
  have hat : at' (x :: xs) 0 = x := rfl
  rw [hat, hsx] at i1
  rw [hat] at i0
  simp only [Nat.zero_mul, Nat.zero_add] at i0 i1
  have HF0 := hid h.fr
  clear h hrow hel hT hat
  have t1 : (0 : Int) < ((x :: xs).length : Int) := by simp
  have t2 : (0 : Int) < (x.l.length : Int) := by omega
  have t3 : (1 : Int) ≤ (x.l.length : Int) := by omega
  have HS := hid hS
  have HH := hid hH
  have HHt := hid hHt
  have HST := hid hst
  clear hS hH hHt
  have hev := HEl.out
  unfold ElAt at hev
  obtain ⟨v0, v1, v2, v3, v4, v5, v6⟩ := hev
  by_cases hl2 : 1 < x.l.length
  · have hc1 : ¬ c = 1 := by omega
    have hc2 : ¬ 1 = c := by omega
    have hc3 : ¬ c ≤ 1 := by omega
    have t4 : (0 : Int) < ((x.l.length - 1 : Nat) : Int) := by omega
    rw [if_neg hc1] at HPut
    have htl : x.l.tail ≠ [] := by
      intro e
      have := congrArg List.length e
      simp at this
      omega
    have HTk : Hid (takeH (x :: xs) = (down (ltR cmE) (⟨x.p, x.l.tail⟩ :: xs) 0 (xs.length + 1)).1) := by
      show takeH (x :: xs) = _
      rw [takeH, if_neg (by simpa using htl)]
    have HFx := hid (fun (W : World) (hR : Rs S fv w0 W W B (.slice (some ⟨g, 0, none⟩) (xs.length + 1) cap) (⟨x.p, x.l.tail⟩ :: xs)) => fix_any W hR (fun r hr => by
      rcases List.mem_cons.1 hr with e | hr
      · rw [e]; exact HHt.out htl
      · exact HH.out r hr) HS.out (by simp))
    clear hst
    go_enter Try.func29, Try.ntmps29
    go_wp2_with fail
    refine (HFx.out _ (HPut.out.step ((alloc_fr _ _ _).alloc _)).again).mono ?_
    rintro e w1 ⟨rfl, hr⟩
    obtain ⟨hz, hi, hend⟩ := takeEnd HPut.out x.hd hr
    have HEnd := hid hend
    simp only [setsz] at hz hi HEnd
    obtain ⟨z0, z1, z2, z3, z4, z5, z6⟩ := cells7 hz
    obtain ⟨k0, k1, k2, k3, k4, k5, k6⟩ := cells7 hi
    have hzf := free2 hz
    have hzl := lt_of_block hz
    have hil := lt_of_block hi
    clear hz hi hend hr
    go_wp2_with fail
    refine bodyPost_ret (v := eV x.hd) (by simp [results, Try.results29, go_sem, z0, z1, z2, z3, z4, z5, z6]) rfl ?_
    exact ⟨rfl, _, by rw [HTk.out]; exact HEnd.out _ (by repeat (first | with_reducible exact Fr.refl _ _ | (with_reducible refine Fr.setCell ?_ ?_ _; rotate_left; (intro h; rfl))))⟩
  · have hl1 : x.l.length = 1 := by omega
    have htl : x.l.tail = [] := List.eq_nil_of_length_eq_zero (by simp; omega)
    have t4 : ¬ (0 : Int) < ((x.l.length - 1 : Nat) : Int) := by omega
    have t5 : ¬ 0 < x.l.length - 1 := by omega
    have HTk : Hid (takeH (x :: xs) = popH (ltR cmE) (⟨x.p, []⟩ :: xs)) := by
      show takeH (x :: xs) = _
      rw [takeH, if_pos (by rw [htl]; rfl)]
    have HPp := hid (fun (W : World) (hR : Rs S fv w0 W W B (.slice (some ⟨g, 0, none⟩) (xs.length + 1) cap) (⟨x.p, x.l.tail⟩ :: xs)) => hpop_any W hR HH.out HS.out)
    rw [htl] at HPp HPut
    clear hst htl hl1
    by_cases hc1 : c = 1
    · rw [if_pos hc1] at HPut
      subst hc1
      have e0 : x.l.length - 1 = 0 := by omega
      rw [e0] at HPut
      clear e0
      go_enter Try.func29, Try.ntmps29
      go_wp2_with fail
      refine (HPp.out _ (HPut.out.step ((alloc_fr _ _ _).alloc _)).again).mono ?_
      rintro e w1 ⟨⟨q, rfl⟩, v', hr⟩
      obtain ⟨hz, hi, hend⟩ := takeEnd HPut.out x.hd hr
      have HEnd := hid hend
      simp only [setsz] at hz hi HEnd
      obtain ⟨z0, z1, z2, z3, z4, z5, z6⟩ := cells7 hz
      obtain ⟨k0, k1, k2, k3, k4, k5, k6⟩ := cells7 hi
      have hzf := free2 hz
      have hzl := lt_of_block hz
      have hil := lt_of_block hi
      clear hz hi hend hr
      go_wp2_with fail
      refine bodyPost_ret (v := eV x.hd) (by simp [results, Try.results29, go_sem, z0, z1, z2, z3, z4, z5, z6]) rfl ?_
      exact ⟨rfl, _, by rw [HTk.out]; exact HEnd.out _ (by repeat (first | with_reducible exact Fr.refl _ _ | (with_reducible refine Fr.setCell ?_ ?_ _; rotate_left; (intro h; rfl))))⟩
    · rw [if_neg hc1] at HPut
      have hc2 : ¬ 1 = c := by omega
      have hc3 : ¬ c ≤ 1 := by omega
      go_enter Try.func29, Try.ntmps29
      go_wp2_with fail
      refine (HPp.out _ (HPut.out.step ((alloc_fr _ _ _).alloc _)).again).mono ?_
      rintro e w1 ⟨⟨q, rfl⟩, v', hr⟩
      obtain ⟨hz, hi, hend⟩ := takeEnd HPut.out x.hd hr
      have HEnd := hid hend
      simp only [setsz] at hz hi HEnd
      obtain ⟨z0, z1, z2, z3, z4, z5, z6⟩ := cells7 hz
      obtain ⟨k0, k1, k2, k3, k4, k5, k6⟩ := cells7 hi
      have hzf := free2 hz
      have hzl := lt_of_block hz
      have hil := lt_of_block hi
      clear hz hi hend hr
      go_wp2_with fail
      refine bodyPost_ret (v := eV x.hd) (by simp [results, Try.results29, go_sem, z0, z1, z2, z3, z4, z5, z6]) rfl ?_
      exact ⟨rfl, _, by rw [HTk.out]; exact HEnd.out _ (by repeat (first | with_reducible exact Fr.refl _ _ | (with_reducible refine Fr.setCell ?_ ?_ _; rotate_left; (intro h; rfl))))⟩
end Go.Proofs.Ytilgkfpicdmkkaa.M.W
end

section
/- merge: newRests: a walk (lists of api.Row). -/
namespace Go.Proofs.Ytilgkfpicdmkkaa.M.W
open Go.RowKit

/-- Where a list lies: its block, its offset, its capacity. -/
structure Sv where
  b : Nat
  o : Nat
  c : Nat
/-- The list at a place. -/
def gl (ls : List (List Rw)) (p : Nat) : List Rw := ls[p]?.getD []
/-- The slice of what is left of a list. -/
def slv (sv : Nat → Sv) (ls : List (List Rw)) (r : Rt) : Value := .slice (some ⟨(sv r.p).b, (sv r.p).o + 7 * min ((gl ls r.p).length - r.l.length) ((sv r.p).c - 1), none⟩) r.l.length ((sv r.p).c - ((gl ls r.p).length - r.l.length))
/-- Lists that can be read. -/
def Ls (w : World) (sv : Nat → Sv) (ls : List (List Rw)) : Prop := ∀ p, (gl ls p).length ≤ (sv p).c ∧ (sv p).c ≤ 9223372036854775807 ∧ ∀ j, j < (gl ls p).length → ElAt w (sv p).b ((sv p).o + 7 * j) ((gl ls p)[j]?.getD default)
theorem Ls.fr {w w' : World} {sv : Nat → Sv} {ls : List (List Rw)} (h : Ls w sv ls) (hf : Fr w w' (fun _ => False)) : Ls w' sv ls := fun p => ⟨(h p).1, (h p).2.1, fun j hj => ((h p).2.2 j hj).fr hf⟩
/-- What is left is an end of a list. -/
def Sf (ls : List (List Rw)) (r : Rt) : Prop := r.l ≠ [] ∧ ∃ d, r.l = (gl ls r.p).drop d
theorem slv_slice (sv : Nat → Sv) (ls : List (List Rw)) (r : Rt) : ∃ a n c, slv sv ls r = .slice a n c := ⟨_, _, _, rfl⟩
theorem Sf.len {ls : List (List Rw)} {r : Rt} (h : Sf ls r) : r.l = (gl ls r.p).drop ((gl ls r.p).length - r.l.length) ∧ r.l.length ≤ (gl ls r.p).length ∧ 0 < r.l.length := by
  obtain ⟨h1, d, h2⟩ := h
  have h3 : 0 < r.l.length := List.length_pos_iff.2 h1
  have h4 : r.l.length = (gl ls r.p).length - d := by rw [h2]; simp
  refine ⟨?_, by omega, h3⟩
  rw [h4, show (gl ls r.p).length - ((gl ls r.p).length - d) = d by omega]
  exact h2
theorem Sf.hd {w : World} {sv : Nat → Sv} {ls : List (List Rw)} (hL : Ls w sv ls) {r : Rt} (h : Sf ls r) : Hd (slv sv ls) w r := by
  obtain ⟨h1, h2, h3⟩ := h.len
  obtain ⟨l1, l2, l3⟩ := hL r.p
  have hm : min ((gl ls r.p).length - r.l.length) ((sv r.p).c - 1) = (gl ls r.p).length - r.l.length := by omega
  refine ⟨(sv r.p).b, (sv r.p).o + 7 * ((gl ls r.p).length - r.l.length), (sv r.p).c - ((gl ls r.p).length - r.l.length), ?_, h3, by omega, ?_⟩
  · unfold slv
    rw [hm]
  · have := l3 ((gl ls r.p).length - r.l.length) (by omega)
    have e : r.hd = (gl ls r.p)[(gl ls r.p).length - r.l.length]?.getD default := by
      unfold R.hd
      conv => lhs; rw [h1]
      rw [List.headD_eq_head?_getD, List.head?_drop]
    rw [e]
    exact this
theorem Sf.tail {ls : List (List Rw)} {r : Rt} (h : Sf ls r) (ht : r.l.tail ≠ []) : Sf ls ⟨r.p, r.l.tail⟩ := by
  obtain ⟨_, d, h2⟩ := h
  refine ⟨ht, d + 1, ?_⟩
  show r.l.tail = _
  rw [h2, List.tail_drop]
theorem slv_tail {w : World} {sv : Nat → Sv} {ls : List (List Rw)} (hL : Ls w sv ls) {x : Rt} (h : Sf ls x) : ∀ b o c, slv sv ls x = .slice (some ⟨b, o, none⟩) x.l.length c → x.l.length ≤ c ∧ slv sv ls ⟨x.p, x.l.tail⟩ = .slice (some ⟨b, if c = 1 then o else o + 7, none⟩) (x.l.length - 1) (c - 1) := by
  intro b o c e
  obtain ⟨h1, h2, h3⟩ := h.len
  obtain ⟨l1, l2, l3⟩ := hL x.p
  unfold slv at e
  simp only [Value.slice.injEq, Option.some.injEq, Addr.mk.injEq, and_true, true_and] at e
  obtain ⟨⟨e1, e2⟩, e3⟩ := e
  refine ⟨by omega, ?_⟩
  unfold slv
  simp only [List.length_tail, Value.slice.injEq, Option.some.injEq, Addr.mk.injEq, and_true, true_and]
  refine ⟨⟨e1, ?_⟩, by omega⟩
  by_cases hc : c = 1
  · rw [if_pos hc]
    omega
  · rw [if_neg hc]
    omega

/-- Lists as an argument. -/
def LsAt (w : World) (sv : Nat → Sv) (ls : List (List Rw)) (lv : Value) : Prop :=
  ∃ ao cap, lv = .slice ao ls.length cap ∧ ls.length ≤ 900000 ∧ Ls w sv ls ∧ (0 < ls.length → ∃ G off, ao = some ⟨G, off, none⟩ ∧ ∀ p, p < ls.length → ∃ a c, w.cell? ⟨G, off + p, none⟩ = some (.slice a (gl ls p).length c) ∧ (gl ls p ≠ [] → .slice a (gl ls p).length c = slv sv ls ⟨p, gl ls p⟩))

theorem take_snoc {ls : List (List Rw)} {i : Nat} (h : i < ls.length) : ls.take (i + 1) = ls.take i ++ [gl ls i] := by
  rw [List.take_succ_eq_append_getElem h]
  simp [gl, h]
theorem mem_sf {ls : List (List Rw)} {hs : List Rt} {F : List (List Rw)} (h : HR cmE hs F) (hF : ∀ p, p < F.length → ∃ d, gl F p = (gl ls p).drop d) : ∀ r ∈ hs, Sf ls r := by
  intro r hr
  obtain ⟨_, h1, h2⟩ := rs_mem (h.perm.mem_iff.1 hr)
  rw [Nat.sub_zero] at h1
  have hlt : r.p < F.length := (List.getElem?_eq_some_iff.1 h1).1
  obtain ⟨d, hd⟩ := hF r.p hlt
  refine ⟨h2, d, ?_⟩
  rw [← hd]
  unfold gl
  rw [h1]
  rfl

set_option maxHeartbeats 1000000 in
set_option maxRecDepth 100000 in
theorem new_any {sv : Nat → Sv} {ls : List (List Rw)} {lv : Value} (w : World) (h : LsAt w sv ls lv) :
    Calls Try.prog 26 #[fv, lv] w fun e w' => ∃ B, e = .returned (.pointer (some ⟨B, 0, none⟩)) ∧ ∃ v hs, Rs (slv sv ls) fv w w w' B v hs ∧ HR cmE hs ls := by
  obtain ⟨ao, cap, rfl, hlen, hL, hc⟩ := h
  have HL := hid hL
  have HC := hid hc
  have HFv : Hid (fv = fv) := rfl
  clear hL hc
  unfold fv
  go_enter Try.func26, Try.ntmps26
  go_wp2_with fail
  have HR0 : Hid (Rs (slv sv ls) fv w w (w.alloc (.cells #[fv, .slice none 0 0] 84)) w.heap.size (.slice none 0 0) []) :=
    ⟨heap_last _ _ _ rfl, ⟨rfl, Or.inl ⟨rfl, rfl⟩⟩, alloc_fr _ _ _, Nat.le_refl _, by simp, (Kps.refl w).fr (alloc_fr _ _ _)⟩
  have HFe : Hid (.func (.func 27) #[] #[] = fv) := rfl
  rw [HFe.out]
  generalize w.alloc (.cells #[fv, .slice none 0 0] 84) = wa at *
  have HN : Hid (w.heap.size = w.heap.size) := rfl
  go_loopg [13] ls.length (fun g s13 wx => ∃ (i : Nat) (v : Value) (hs : List Rt), s13 = .int .i64 (i : Int) ∧ i + g = ls.length ∧ hs.length ≤ i ∧ Hid (Rs (slv sv ls) fv w w wx w.heap.size v hs) ∧ Hid (HR cmE hs (ls.take i)))
  case atStart => exact ⟨0, _, [], rfl, by omega, by simp, HR0, HR.nil⟩
  case round =>
    obtain ⟨i, v, hs, rfl, hg, hhl, HX, HM⟩ := hrel
    clear HR0
    cases gk with
    | zero =>
      have t1 : ¬ (i : Int) < (ls.length : Int) := by omega
      have HE := hid (show i = ls.length by omega)
      clear hg
      go_wp2_with fail
      go_ret
      have hm := HM.out
      rw [HE.out, List.take_length] at hm
      exact ⟨_, rfl, _, _, HX.out, hm⟩
    | succ g =>
      have hi : i < ls.length := by omega
      have t1 : (i : Int) < (ls.length : Int) := by omega
      have HG := hid hg
      obtain ⟨G, off, rfl, hcl⟩ := HC.out (by omega)
      obtain ⟨a, c, hci, hsi⟩ := hcl i hi
      have hbl := World.block_lt_of_cell? w _ hci
      dsimp only at hbl
      have hx1 : wr.cell? ⟨G, off + i, none⟩ = some (.slice a (gl ls i).length c) := by rw [(fr_rules HX.out.fr).1 _ _ hbl]; exact hci
      have hbr : G < wr.heap.size := Nat.lt_of_lt_of_le hbl HX.out.fr.size
      have HT := hid (take_snoc hi)
      have HSi := hid hsi
      clear hci hcl hsi hg
      by_cases hl0 : gl ls i = []
      · have t2 : ¬ (0 : Int) < ((gl ls i).length : Int) := by rw [hl0]; simp
        have t3 : ¬ 0 < (gl ls i).length := by rw [hl0]; simp
        have HM2 : Hid (HR cmE hs (ls.take (i + 1))) := by
          show HR cmE hs (ls.take (i + 1))
          rw [HT.out, hl0]
          exact HM.out.skip
        clear hl0
        go_wp2_with fail
        go_roundg g
        case measure => omega
        case rel => exact ⟨i + 1, v, hs, by go_num, by have := HG.out; omega, by omega, HX, HM2⟩
      · have t2 : (0 : Int) < ((gl ls i).length : Int) := by have := List.length_pos_iff.2 hl0; omega
        have t3 : 0 < (gl ls i).length := List.length_pos_iff.2 hl0
        have hsl := HSi.out hl0
        have HM2 : Hid (HR cmE (up (ltR cmE) (hs ++ [⟨i, gl ls i⟩]) hs.length) (ls.take (i + 1))) := by
          have := HM.out.push cmE_cm hl0
          rw [← HT.out] at this
          rw [List.length_take, show min i ls.length = i by omega] at this
          exact this
        have HP := hid (hpush_any ⟨i, gl ls i⟩ wr HX.out (fun r hr => (mem_sf HM.out (ls := ls) (fun p hp => ⟨0, by
          simp at hp
          unfold gl
          rw [List.getElem?_take, if_pos (by omega)]
          simp⟩) r hr).hd HL.out) (Sf.hd HL.out ⟨hl0, 0, by simp⟩) (slv_slice sv ls) (by omega))
        rw [← hsl] at HP
        clear hl0 hsl HSi
        generalize hgl : gl ls i = l at *
        clear hgl
        go_wp2_with fail
        refine HP.out.mono ?_
        rintro e w1 ⟨rfl, v', hr⟩
        have HX2 := hid hr
        clear hr
        go_wp2_with fail
        go_roundg g
        case measure => omega
        case rel => exact ⟨i + 1, v', _, by go_num, by have := HG.out; omega, by rw [(up_perm _ _ (by simp)).length_eq]; simp; omega, HX2, HM2⟩
end Go.Proofs.Ytilgkfpicdmkkaa.M.W
end

section
/- merge: Rows: a walk (lists of api.Row). -/
namespace Go.Proofs.Ytilgkfpicdmkkaa.M.W
open Go.RowKit

theorem Rs.rebase {S : Rt → Value} {f : Value} {w0 wk W : World} {B : Nat} {v : Value} {hs : List Rt} (h : Rs S f w0 wk W B v hs) : Rs S f w0 W W B v hs := ⟨h.cell, h.own, h.fr, h.hB, h.len, Kps.refl W⟩
theorem Rs.frT {S : Rt → Value} {f : Value} {w0 wk W W' : World} {B : Nat} {v : Value} {hs : List Rt} {T : Nat → Prop} (h : Rs S f w0 wk W B v hs) (hf : Fr W W' T) (hB : ¬ T B) (hv : ∀ k, v.ownBlock = some k → ¬ T k) (h0 : ∀ k, T k → w0.heap.size ≤ k) : Rs S f w0 W' W' B v hs :=
  ⟨by rw [hf.block B h.lt hB]; exact h.cell, own_fr h.own hf hv, h.fr.trans2 hf (fun i hi ht => by have := h0 i ht; omega), h.hB, h.len, Kps.refl W'⟩
theorem own_kps {w w' : World} {base : Nat} {e : TypeId} {size : Nat} {v : Value} {n : Nat} {xs : List Value} (h : w.ownsRow base e size v n xs) (hk : Kps w w') (h1 : e ≠ 87) (h2 : e ≠ 84) : w'.ownsRow base e size v n xs := by
  refine ⟨h.1, ?_⟩
  rcases h.2 with hn | ⟨g, cap, cur, hv, hb, hg, rest⟩
  · exact .inl hn
  · exact .inr ⟨g, cap, cur, hv, hb, hk g cur e (0, 0) hg h1 h2, rest⟩
/-- Rows of unlike kinds lie in unlike blocks. -/
theorem own_unlike {w : World} {b1 b2 : Nat} {e1 e2 : TypeId} {s1 s2 : Nat} {v1 v2 : Value} {n1 n2 : Nat} {x1 x2 : List Value} (h1 : w.ownsRow b1 e1 s1 v1 n1 x1) (h2 : w.ownsRow b2 e2 s2 v2 n2 x2) (he : e1 ≠ e2) : ∀ k, v1.ownBlock = some k → v2.ownBlock ≠ some k := by
  intro k hk hk2
  rcases h1.2 with ⟨e, _⟩ | ⟨g, cap, cur, e, _, hg, _⟩
  · rw [e] at hk; simp [Value.ownBlock] at hk
  · rcases h2.2 with ⟨e', _⟩ | ⟨g', cap', cur', e', _, hg', _⟩
    · rw [e'] at hk2; simp [Value.ownBlock] at hk2
    · rw [e] at hk
      rw [e'] at hk2
      simp only [Value.ownBlock, Option.some.injEq] at hk hk2
      subst hk
      subst hk2
      rw [hg] at hg'
      simp only [Option.some.injEq, Obj.cells.injEq] at hg'
      exact he hg'.2.1

/-- Rows of one's own behind a world. -/
def Ro7 (w wx : World) (v : Value) (l : List Rw) : Prop := wx.ownsRow w.heap.size 54 7 v l.length (rc l) ∧ Fr w wx (fun _ => False)
theorem Ro7.fr {w wx wy : World} {v : Value} {l : List Rw} (h : Ro7 w wx v l) (hf : Fr wx wy (fun _ => False)) : Ro7 w wy v l := ⟨own_fr h.1 hf (fun _ _ h => h), h.2.trans hf⟩
theorem Ro7.shape {w wx : World} {v : Value} {l : List Rw} (h : Ro7 w wx v l) : ∃ ao cap, v = .slice ao l.length cap := own_nil_shape h.1
theorem Try.info_r7 : (Try.prog.info? 54).map (fun i => (i.zero, i.size, i.bytes)) = some (some (.agg #[.int .i64 0, .string ⟨#[]⟩, .int .i64 0, .int .i64 0, .int .i64 0, .int .i64 0, .int .i64 0]), 7, 64) := by kernel_rfl
theorem r7_new (w : World) (a b c d f g i : Value) (e : TypeId) : ∀ (j : Nat) (u : Value), [a, b, c, d, f, g, i][j]? = some u → (w.alloc (.cells #[a, b, c, d, f, g, i] e)).cell? ((⟨w.heap.size, 0, none⟩ : Addr).add j) = some u := by
  intro j u hj
  match j, hj with
  | 0, hj => simp at hj; subst hj; simp [Addr.add]
  | 1, hj => simp at hj; subst hj; simp [Addr.add]
  | 2, hj => simp at hj; subst hj; simp [Addr.add]
  | 3, hj => simp at hj; subst hj; simp [Addr.add]
  | 4, hj => simp at hj; subst hj; simp [Addr.add]
  | 5, hj => simp at hj; subst hj; simp [Addr.add]
  | 6, hj => simp at hj; subst hj; simp [Addr.add]
  | j + 7, hj => simp at hj
theorem wpl_r7 {W wb : World} {ops : Array Oper} {rest : List Oper} {o : Oper} {a : Act} {Q : Exit → Act → World → Prop} (hgd : o.guard = none) (sl x : Operand)
    (ho : o.op = .call { callee := .builtin .append, args := #[sl, x], argTypes := #[22, 22] }) (v : Value) (l : List Rw) (hs : a.eval sl = v) (y : Rw) (hx : a.eval x = .slice (some ⟨W.heap.size, 0, none⟩) 1 1) (hn : l.length ≤ 1000000000) (hb : Ro7 wb W v l)
    (h : ∀ v' w', Ro7 wb w' v' (l ++ [y]) → (W.alloc (.cells #[.int .i64 y.c.v, .string y.c.k, .int .i64 y.c.s, .int .i64 y.n, .int .i64 y.s, .int .i64 y.m, .int .i64 y.x] 54)).grownBy w' v.ownBlock → wpList Try.prog ops Q rest (a.put o.dst v') w') : wpList Try.prog ops Q (o :: rest) a (W.alloc (.cells #[.int .i64 y.c.v, .string y.c.k, .int .i64 y.c.s, .int .i64 y.n, .int .i64 y.s, .int .i64 y.m, .int .i64 y.x] 54)) := by
  obtain ⟨i0, hi, hz0, hz1, hz2⟩ := infoP Try.info_r7
  have hb2 := hb.fr (alloc_fr W (.cells #[.int .i64 y.c.v, .string y.c.k, .int .i64 y.c.s, .int .i64 y.n, .int .i64 y.s, .int .i64 y.m, .int .i64 y.x] 54) (fun _ => False))
  refine wpList_append_own_at _ hgd sl x 22 ho wb.heap.size 54 i0 _ 7 64 Try.underlying22 hi hz0 hz1 hz2 rfl (by decide) v l.length (rc l) hs hb2.1 ⟨W.heap.size, 0, none⟩ 1 1 [.int .i64 y.c.v, .string y.c.k, .int .i64 y.c.s, .int .i64 y.n, .int .i64 y.s, .int .i64 y.m, .int .i64 y.x] hx rfl (r7_new W _ _ _ _ _ _ _ _) (by intro u hu; simp at hu; rcases hu with rfl | rfl | rfl | rfl | rfl | rfl | rfl <;> rfl) (by unfold maxLen; omega) (by omega) hb2.2.size ?_
  intro v' w' hown hgr _ hat
  refine h v' w' ⟨?_, hb2.2.grown hgr (fun k hk e => by have := hb2.1.lt k e; omega)⟩ hgr
  rw [rc_append, List.length_append]
  exact hown

/-- What stands in the rounds of Lists, Rows: done is told, F is left. -/
structure LI (sv : Nat → Sv) (ls : List (List Rw)) (w wx : World) (B : Nat) (done : List Rw) (F : List (List Rw)) (hs : List Rt) (v : Value) : Prop where
  rs : Rs (slv sv ls) fv w wx wx B v hs
  hr : HR cmE hs F
  sf : ∀ p, p < F.length → ∃ d, gl F p = (gl ls p).drop d
  eq : merged cmE ls = done ++ merged cmE F
theorem gl_set {F : List (List Rw)} {p q : Nat} {t : List Rw} (h : p < F.length) : gl (F.set p t) q = if p = q then t else gl F q := by
  unfold gl
  rw [List.getElem?_set]
  split
  · rfl
  · rfl
/-- A take from it. -/
theorem LI.take {sv : Nat → Sv} {ls : List (List Rw)} {w wx : World} {B : Nat} {done : List Rw} {F : List (List Rw)} {x : Rt} {hs : List Rt} {v : Value} (h : LI sv ls w wx B done F (x :: hs) v) (hL : Ls w sv ls) :
    Calls Try.prog 29 #[.pointer (some ⟨B, 0, none⟩)] wx fun e w' => e = .returned (eV x.hd) ∧ Kps wx w' ∧ ∃ v' F' hs', LI sv ls w w' B (done ++ [x.hd]) F' hs' v' ∧ Fr w w' (fun _ => False) ∧ tot F = tot F' + 1 := by
  have hsf := mem_sf h.hr h.sf
  have hx := hsf x (by simp)
  obtain ⟨f1, f2⟩ := h.hr.first cmE_cm
  refine (take_any wx h.rs (fun r hr => (hsf r (by simp [hr])).hd hL) (hx.hd hL) (slv_slice sv ls) (slv_tail hL hx) (fun ht => (hx.tail ht).hd hL)).mono ?_
  rintro e w' ⟨rfl, v', hr⟩
  obtain ⟨_, g1, g2⟩ := rs_mem f1
  rw [Nat.sub_zero] at g1
  have hlt : x.p < F.length := (List.getElem?_eq_some_iff.1 g1).1
  refine ⟨rfl, hr.kp, v', F.set x.p x.l.tail, takeH (x :: hs), ⟨hr.rebase, ?_, ?_, ?_⟩, hr.fr, tot_step f1⟩
  · rw [takeH]
    by_cases ht : x.l.tail = []
    · rw [if_pos (by rw [ht]; rfl)]
      exact h.hr.pop cmE_cm ht _
    · rw [if_neg (by simpa using ht)]
      exact h.hr.fix cmE_cm ht
  · intro p hp
    rw [List.length_set] at hp
    rw [gl_set hlt]
    split
    · rename_i e
      obtain ⟨d, hd⟩ := h.sf p hp
      refine ⟨d + 1, ?_⟩
      have e2 : x.l = gl F p := by unfold gl; rw [← e, g1]; rfl
      rw [e2, hd, List.tail_drop]
    · exact h.sf p hp
  · rw [h.eq, merged_some cmE_cm f1 f2]
    simp

theorem LI.fr {sv : Nat → Sv} {ls : List (List Rw)} {w wx wy : World} {B : Nat} {done : List Rw} {F : List (List Rw)} {hs : List Rt} {v : Value} (h : LI sv ls w wx B done F hs v) (hf : Fr wx wy (fun _ => False)) : LI sv ls w wy B done F hs v := ⟨(h.rs.step hf).rebase, h.hr, h.sf, h.eq⟩
/-- An append to what is told leaves the rest. -/
theorem LI.grown {sv : Nat → Sv} {ls : List (List Rw)} {w wx wy : World} {B : Nat} {done : List Rw} {F : List (List Rw)} {hs : List Rt} {v kv : Value} {l : List Rw} (h : LI sv ls w wx B done F hs v) (hE : Ro7 w wx kv l) (hg : wx.grownBy wy kv.ownBlock) : LI sv ls w wy B done F hs v :=
  ⟨h.rs.frT (T := fun k => kv.ownBlock = some k) ((Fr.refl wx _).grown hg (fun _ _ e => e)) (own_ne hE.1 h.rs.cell (by decide)) (own_unlike h.rs.own hE.1 (by decide)) (fun k e => (hE.1.lt k e).1), h.hr, h.sf, h.eq⟩

set_option maxHeartbeats 1000000 in
set_option maxRecDepth 100000 in
theorem rows_any {sv : Nat → Sv} {ls : List (List Rw)} {lv : Value} (most : Int) (w : World) (h : LsAt w sv ls lv) (ht : tot ls ≤ 1000000000) :
    Calls Try.prog 10 #[.int .i64 most, lv] w fun e w' => ∃ v, e = .returned v ∧ Ro7 w w' v ((merged cmE ls).take most.toNat) := by
  have HN := hid (new_any w h)
  have HL : Hid (Ls w sv ls) := by obtain ⟨_, _, _, _, hL, _⟩ := h; exact hL
  clear h
  unfold fv at HN
  go_enter Try.func10, Try.ntmps10
  go_wp2_with fail
  refine HN.out.mono ?_
  rintro e w1 ⟨B, rfl, v, hs, hr, hh⟩
  have HI : Hid (LI sv ls w w1 B [] ls hs v) := ⟨hr.rebase, hh, fun p _ => ⟨0, by simp⟩, by simp⟩
  have HE : Hid (Ro7 w w1 (.slice none 0 0) []) := ⟨⟨rfl, Or.inl ⟨rfl, rfl⟩⟩, hr.fr⟩
  clear hr hh HN
  go_wp2_with fail
  go_loopg [6] (tot ls) (fun g s6 wx => ∃ (done : List Rw) (F : List (List Rw)) (hs : List Rt) (v : Value), tot F ≤ g ∧ done.length + tot F = tot ls ∧ done.length ≤ most.toNat ∧ Hid (Ro7 w wx s6 done) ∧ Hid (LI sv ls w wx B done F hs v))
  case atStart => exact ⟨[], ls, hs, v, Nat.le_refl _, by simp, by simp, HE, HI⟩
  case round =>
    obtain ⟨done, F, hs, v, hg, hdl, hdm, HEo, HLI⟩ := hrel
    clear HI HE
    have HLn := hid (len_any _ HLI.out.rs)
    have hhl := HLI.out.rs.len
    obtain ⟨ao, cap, rfl⟩ := HEo.out.shape
    by_cases hm : (done.length : Int) < most
    · cases hs with
      | nil =>
        have HM : Hid ((merged cmE ls).take most.toNat = done) := by
          show (merged cmE ls).take most.toNat = done
          rw [HLI.out.eq, merged_none cmE_cm HLI.out.hr.empty, List.append_nil, List.take_of_length_le hdm]
        go_wp2_with fail
        refine HLn.out.mono ?_
        rintro e w2 ⟨rfl, rfl⟩
        go_wp2_with fail
        go_ret
        refine ⟨_, rfl, ?_⟩
        rw [HM.out]
        exact HEo.out
      | cons x hs =>
        have t1 : (0 : Int) < ((x :: hs).length : Int) := by simp only [List.length_cons]; omega
        have HTk := hid (HLI.out.take HL.out)
        have HEk := hid (fun (W : World) (h1 : Kps wr W) (h2 : Fr w W (fun _ => False)) => (⟨own_kps HEo.out.1 h1 (by decide) (by decide), h2⟩ : Ro7 w W (.slice ao done.length cap) done))
        clear HLI HEo
        go_wp2_with fail
        refine HLn.out.mono ?_
        rintro e w2 ⟨rfl, rfl⟩
        go_wp2_with fail
        refine HTk.out.mono ?_
        rintro e w3 ⟨rfl, hk, v', F', hs', hli, hfr, htt⟩
        have HLI := hid hli
        have HEo : Hid (Ro7 w w3 (.slice ao done.length cap) done) := HEk.out _ hk hfr
        clear HTk HLn HEk hk hli hfr
        generalize hy : R.hd x = y at *
        clear hy
        unfold eV
        go_wp2_with (at_builtin; go_must (refine wpl_r7 (wb := w) rfl (.tmp 18) (.tmp 21) rfl _ done rfl y rfl ?c1 HEo.out ?_))
        case c1 => omega
        intro v2 w4 hE4 hg4
        have HE4 := hid hE4
        have HL4 := hid ((HLI.out.fr (alloc_fr w3 (.cells #[.int .i64 y.c.v, .string y.c.k, .int .i64 y.c.s, .int .i64 y.n, .int .i64 y.s, .int .i64 y.m, .int .i64 y.x] 54) _)).grown (HEo.out.fr (alloc_fr w3 (.cells #[.int .i64 y.c.v, .string y.c.k, .int .i64 y.c.s, .int .i64 y.n, .int .i64 y.s, .int .i64 y.m, .int .i64 y.x] 54) _)) hg4)
        clear hE4 hg4
        go_wp2_with fail
        go_roundg (gk - 1)
        case measure => omega
        case rel => exact ⟨done ++ [y], F', hs', v', by omega, by simp; omega, by simp; omega, HE4, HL4⟩
    · have HM : Hid ((merged cmE ls).take most.toNat = done) := by
        show (merged cmE ls).take most.toNat = done
        have e0 : most.toNat = done.length := by omega
        rw [HLI.out.eq, e0, List.take_left' rfl]
      go_wp2_with fail
      go_ret
      refine ⟨_, rfl, ?_⟩
      rw [HM.out]
      exact HEo.out
end Go.Proofs.Ytilgkfpicdmkkaa.M.W
end
