import Derived.Test.YtilgkfpicdmkkaaMHeapW
/- merge: take: a walk (lists of api.Row). -/
namespace Go.Proofs.Ytilgkfpicdmkkaa.M.W
open Go.RowKit
variable {S : Rt → Value}

/-- The heap behind a take. -/
def takeH : List Rt → List Rt
  | [] => []
  | x :: xs => if x.l.tail.isEmpty then popH (ltR cmE) (⟨x.p, []⟩ :: xs) else (down (ltR cmE) (⟨x.p, x.l.tail⟩ :: xs) 0 (xs.length + 1)).1
abbrev eV (x : Rw) : Value := .agg #[.int .i64 x.c.v, .string x.c.k, .int .i64 x.c.s, .int .i64 x.n, .int .i64 x.s, .int .i64 x.m, .int .i64 x.x]

theorem Rs.put1 {f : Value} {w0 wk w : World} {B g cap : Nat} {x y : Rt} {xs : List Rt} (h : Rs S f w0 wk w B (.slice (some ⟨g, 0, none⟩) (xs.length + 1) cap) (x :: xs)) (hp : y.p = x.p) : Rs S f w0 wk (w.setCell ⟨g, 1, none⟩ (S y)) B (.slice (some ⟨g, 0, none⟩) (xs.length + 1) cap) (y :: xs) := by
  obtain ⟨g', cap', rest, e, hrow, hcap, hg, hm⟩ := own_rowR h.own (by simp)
  simp only [Value.slice.injEq, Option.some.injEq, Addr.mk.injEq, and_true, true_and, List.length_cons] at e
  obtain ⟨rfl, rfl⟩ := e
  have hne : B ≠ g := fun e => h.ne (by rw [e]; rfl)
  have hr : RowR S (w.setCell ⟨g, 1, none⟩ (S y)) g (y :: xs) rest := by
    have h1 := heap_setCell_same w g 1 _ _ (S y) hrow
    unfold RowR
    rw [h1]
    refine congrArg (fun a => Option.some (Obj.cells a 87 (0, 0))) (Array.ext' ?_)
    simp [vc, hp]
  have ho := rowR_own (base := w0.heap.size) (cap := cap) hr hg (by simpa using hcap) hm (xs.length + 1) (by simp)
  rw [List.take_of_length_le (by simp)] at ho
  refine ⟨?_, ho, h.fr.setCell (p := ⟨g, 1, none⟩) (fun hh => by simp only at hh; omega) _, h.hB, by have := h.len; simpa using this, h.kpT (((Fr.refl w (fun k => k = B ∨ (Value.slice (some ⟨g, 0, none⟩) (xs.length + 1) cap).ownBlock = some k)).setCell (p := ⟨g, 1, none⟩) (fun _ => Or.inr rfl) _))⟩
  rw [((Fr.refl w (fun k => k = g)).setCell (p := ⟨g, 1, none⟩) (fun _ => rfl) _).block B h.lt hne]
  exact h.cell

theorem Rs.again {f : Value} {w0 wk W : World} {B : Nat} {v : Value} {hs : List Rt} (h : Rs S f w0 wk W B v hs) : Rs S f w0 W W B v hs := ⟨h.cell, h.own, h.fr, h.hB, h.len, Kps.refl W⟩
theorem setsz (w : World) (p : Addr) (u : Value) : (w.setCell p u).heap.size = w.heap.size := by simp [World.setCell]
/-- Behind a take: the item's block, the result's, and what stays when the result is stored. -/
theorem takeEnd {w0 wk wp w1 : World} {B : Nat} {vp v : Value} {hp hs : List Rt} (hP : Rs S fv w0 wk wp B vp hp) (r : Rw)
    (hr : Rs S fv w0 ((wp.alloc (.cells #[.int .i64 0, .string ⟨#[]⟩, .int .i64 0, .int .i64 0, .int .i64 0, .int .i64 0, .int .i64 0] 54)).alloc (.cells #[.int .i64 r.c.v, .string r.c.k, .int .i64 r.c.s, .int .i64 r.n, .int .i64 r.s, .int .i64 r.m, .int .i64 r.x] 54)) w1 B v hs) :
    w1.heap[wp.heap.size]? = some (.cells #[.int .i64 0, .string ⟨#[]⟩, .int .i64 0, .int .i64 0, .int .i64 0, .int .i64 0, .int .i64 0] 54 (0, 0)) ∧
    w1.heap[wp.heap.size + 1]? = some (.cells #[.int .i64 r.c.v, .string r.c.k, .int .i64 r.c.s, .int .i64 r.n, .int .i64 r.s, .int .i64 r.m, .int .i64 r.x] 54 (0, 0)) ∧
    ∀ w', Fr w1 w' (fun k => k = wp.heap.size) → Rs S fv w0 wk w' B v hs := by
  have h1 := hr.kp wp.heap.size _ _ _ ((Below.heap_alloc _ _ _ (by simp)).trans (heap_last _ _ _ rfl)) (by decide) (by decide)
  have h2 := hr.kp (wp.heap.size + 1) _ _ _ (heap_last _ _ _ (by simp)) (by decide) (by decide)
  refine ⟨h1, h2, fun w' hf => ?_⟩
  have hnB : ¬ B = wp.heap.size := fun e => by
    have := hP.lt
    omega
  refine ⟨by rw [hf.block B hr.lt hnB]; exact hr.cell, own_fr hr.own hf (fun k hk e => ?_), hr.fr.trans2 hf (fun i hi e => ?_), hr.hB, hr.len, ?_⟩
  · rw [e] at hk
    exact own_ne hr.own h1 (by decide) hk
  · have := hP.fr.size
    omega
  · intro k cs e z g1 g2 g3
    have g4 := hP.kp k cs e z g1 g2 g3
    have hlt := lt_of_block g4
    have g5 := hr.kp k cs e z ((((alloc_fr wp _ (fun _ => False)).alloc _).block k hlt (fun h => h)).trans g4) g2 g3
    rw [hf.block k (lt_of_block g5) (by omega)]
    exact g5

set_option maxHeartbeats 1000000 in
set_option maxRecDepth 100000 in
theorem take_any {w0 wk : World} {B : Nat} {v : Value} {x : Rt} {xs : List Rt} (w : World) (h : Rs S fv w0 wk w B v (x :: xs)) (hH : ∀ r ∈ xs, Hd S w0 r) (hx : Hd S w0 x) (hS : ∀ r, ∃ a n c, S r = .slice a n c)
    (hT : ∀ b o c, S x = .slice (some ⟨b, o, none⟩) x.l.length c → x.l.length ≤ c ∧ S ⟨x.p, x.l.tail⟩ = .slice (some ⟨b, if c = 1 then o else o + 7, none⟩) (x.l.length - 1) (c - 1)) (hHt : x.l.tail ≠ [] → Hd S w0 ⟨x.p, x.l.tail⟩) :
    Calls Try.prog 29 #[.pointer (some ⟨B, 0, none⟩)] w fun e w' => e = .returned (eV x.hd) ∧ ∃ v', Rs S fv w0 wk w' B v' (takeH (x :: xs)) := by
  have hlen := h.len
  obtain ⟨g, cap, rest, rfl, hrow, hcap, hg, hm⟩ := own_rowR h.own (by simp)
  obtain ⟨_, c1⟩ := cells2 h.cell
  obtain ⟨i0, i1⟩ := hrow.cells 0 (by simp)
  have f1 := hrow.free 1
  have hlt := h.lt
  have hlg := hrow.lt
  have hgB : g ≠ B := fun e => h.ne (by rw [e]; rfl)
  obtain ⟨b, o, c, hsx, hn0, hnm, hel⟩ := hx
  obtain ⟨hnc, hst⟩ := hT b o c hsx
  have HEl := hid (hel.fr h.fr)
  have hbl := (hel.fr h.fr).lt
  have hbg : b ≠ g := fun e => by have := hel.lt; omega
  have HPut := hid (h.put1 (y := ⟨x.p, x.l.tail⟩) rfl)
  rw [hst] at HPut
  have hat : at' (x :: xs) 0 = x := rfl
  rw [hat, hsx] at i1
  rw [hat] at i0
  simp only [Nat.zero_mul, Nat.zero_add] at i0 i1
  have HF0 := hid h.fr
  clear h hrow hel hT hat
  have t1 : (0 : Int) < ((x :: xs).length : Int) := by simp
  have t2 : (0 : Int) < (x.l.length : Int) := by omega
  have t3 : (1 : Int) ≤ (x.l.length : Int) := by omega
  have HS := hid hS
  have HH := hid hH
  have HHt := hid hHt
  have HST := hid hst
  clear hS hH hHt
  have hev := HEl.out
  unfold ElAt at hev
  obtain ⟨v0, v1, v2, v3, v4, v5, v6⟩ := hev
  by_cases hl2 : 1 < x.l.length
  · have hc1 : ¬ c = 1 := by omega
    have hc2 : ¬ 1 = c := by omega
    have hc3 : ¬ c ≤ 1 := by omega
    have t4 : (0 : Int) < ((x.l.length - 1 : Nat) : Int) := by omega
    rw [if_neg hc1] at HPut
    have htl : x.l.tail ≠ [] := by
      intro e
      have := congrArg List.length e
      simp at this
      omega
    have HTk : Hid (takeH (x :: xs) = (down (ltR cmE) (⟨x.p, x.l.tail⟩ :: xs) 0 (xs.length + 1)).1) := by
      show takeH (x :: xs) = _
      rw [takeH, if_neg (by simpa using htl)]
    have HFx := hid (fun (W : World) (hR : Rs S fv w0 W W B (.slice (some ⟨g, 0, none⟩) (xs.length + 1) cap) (⟨x.p, x.l.tail⟩ :: xs)) => fix_any W hR (fun r hr => by
      rcases List.mem_cons.1 hr with e | hr
      · rw [e]; exact HHt.out htl
      · exact HH.out r hr) HS.out (by simp))
    clear hst
    go_enter Try.func29, Try.ntmps29
    go_wp2_with fail
    refine (HFx.out _ (HPut.out.step ((alloc_fr _ _ _).alloc _)).again).mono ?_
    rintro e w1 ⟨rfl, hr⟩
    obtain ⟨hz, hi, hend⟩ := takeEnd HPut.out x.hd hr
    have HEnd := hid hend
    simp only [setsz] at hz hi HEnd
    obtain ⟨z0, z1, z2, z3, z4, z5, z6⟩ := cells7 hz
    obtain ⟨k0, k1, k2, k3, k4, k5, k6⟩ := cells7 hi
    have hzf := free2 hz
    have hzl := lt_of_block hz
    have hil := lt_of_block hi
    clear hz hi hend hr
    go_wp2_with fail
    refine bodyPost_ret (v := eV x.hd) (by simp [results, Try.results29, go_sem, z0, z1, z2, z3, z4, z5, z6]) rfl ?_
    exact ⟨rfl, _, by rw [HTk.out]; exact HEnd.out _ (by repeat (first | with_reducible exact Fr.refl _ _ | (with_reducible refine Fr.setCell ?_ ?_ _; rotate_left; (intro h; rfl))))⟩
  · have hl1 : x.l.length = 1 := by omega
    have htl : x.l.tail = [] := List.eq_nil_of_length_eq_zero (by simp; omega)
    have t4 : ¬ (0 : Int) < ((x.l.length - 1 : Nat) : Int) := by omega
    have t5 : ¬ 0 < x.l.length - 1 := by omega
    have HTk : Hid (takeH (x :: xs) = popH (ltR cmE) (⟨x.p, []⟩ :: xs)) := by
      show takeH (x :: xs) = _
      rw [takeH, if_pos (by rw [htl]; rfl)]
    have HPp := hid (fun (W : World) (hR : Rs S fv w0 W W B (.slice (some ⟨g, 0, none⟩) (xs.length + 1) cap) (⟨x.p, x.l.tail⟩ :: xs)) => hpop_any W hR HH.out HS.out)
    rw [htl] at HPp HPut
    clear hst htl hl1
    by_cases hc1 : c = 1
    · rw [if_pos hc1] at HPut
      subst hc1
      have e0 : x.l.length - 1 = 0 := by omega
      rw [e0] at HPut
      clear e0
      go_enter Try.func29, Try.ntmps29
      go_wp2_with fail
      refine (HPp.out _ (HPut.out.step ((alloc_fr _ _ _).alloc _)).again).mono ?_
      rintro e w1 ⟨⟨q, rfl⟩, v', hr⟩
      obtain ⟨hz, hi, hend⟩ := takeEnd HPut.out x.hd hr
      have HEnd := hid hend
      simp only [setsz] at hz hi HEnd
      obtain ⟨z0, z1, z2, z3, z4, z5, z6⟩ := cells7 hz
      obtain ⟨k0, k1, k2, k3, k4, k5, k6⟩ := cells7 hi
      have hzf := free2 hz
      have hzl := lt_of_block hz
      have hil := lt_of_block hi
      clear hz hi hend hr
      go_wp2_with fail
      refine bodyPost_ret (v := eV x.hd) (by simp [results, Try.results29, go_sem, z0, z1, z2, z3, z4, z5, z6]) rfl ?_
      exact ⟨rfl, _, by rw [HTk.out]; exact HEnd.out _ (by repeat (first | with_reducible exact Fr.refl _ _ | (with_reducible refine Fr.setCell ?_ ?_ _; rotate_left; (intro h; rfl))))⟩
    · rw [if_neg hc1] at HPut
      have hc2 : ¬ 1 = c := by omega
      have hc3 : ¬ c ≤ 1 := by omega
      go_enter Try.func29, Try.ntmps29
      go_wp2_with fail
      refine (HPp.out _ (HPut.out.step ((alloc_fr _ _ _).alloc _)).again).mono ?_
      rintro e w1 ⟨⟨q, rfl⟩, v', hr⟩
      obtain ⟨hz, hi, hend⟩ := takeEnd HPut.out x.hd hr
      have HEnd := hid hend
      simp only [setsz] at hz hi HEnd
      obtain ⟨z0, z1, z2, z3, z4, z5, z6⟩ := cells7 hz
      obtain ⟨k0, k1, k2, k3, k4, k5, k6⟩ := cells7 hi
      have hzf := free2 hz
      have hzl := lt_of_block hz
      have hil := lt_of_block hi
      clear hz hi hend hr
      go_wp2_with fail
      refine bodyPost_ret (v := eV x.hd) (by simp [results, Try.results29, go_sem, z0, z1, z2, z3, z4, z5, z6]) rfl ?_
      exact ⟨rfl, _, by rw [HTk.out]; exact HEnd.out _ (by repeat (first | with_reducible exact Fr.refl _ _ | (with_reducible refine Fr.setCell ?_ ?_ _; rotate_left; (intro h; rfl))))⟩
end Go.Proofs.Ytilgkfpicdmkkaa.M.W
