/- pane.oldest: the walk. -/
import Derived.Test.YtbhhpkbiflolfaaPWalk1
namespace Go.Proofs.Ytbhhpkbiflolfaa
open Go.RowKit

/-- A time or a mark that oldest is asked for. -/
def Tm (t : Int) : Prop := -4611687117939015680 ≤ t ∧ t ≤ 4611687117939015680

/-- What stands in the search: the start x is number k, none younger than the oldest; the leap y is a slide, g times doubled. -/
structure OI (s d t : Int) (g : Nat) (k x y : Int) : Prop where
  xk : x = k * d
  ge : oldK s d t ≤ k
  hi : x ≤ t + 2 * d
  g6 : g ≤ 6
  yg : y = 2 ^ g * d

theorem OI.lo {s d t : Int} {g : Nat} {k x y : Int} (h : OI s d t g k x y) (hd : 1 ≤ d) : t < x + s := by
  rw [h.xk]
  exact (oldK_le hd).1 h.ge
theorem OI.one {s d t : Int} {g : Nat} {k x y : Int} (h : OI s d t g k x y) (hd : 1 ≤ d) : x - d + s ≤ t ↔ k = oldK s d t := by
  have h1 := @oldK_gt s d t (k - 1) hd
  rw [Int.sub_mul, Int.one_mul, ← h.xk] at h1
  have := h.ge
  omega
theorem OI.two {s d t : Int} {g : Nat} {k x y : Int} (h : OI s d t g k x y) (hd : 1 ≤ d) : x - y + s ≤ t ↔ k - 2 ^ g < oldK s d t := by
  have h1 := @oldK_gt s d t (k - 2 ^ g) hd
  rw [Int.sub_mul, ← h.xk, ← h.yg] at h1
  exact h1.symm
theorem pow_bd {g : Nat} (h : g ≤ 6) : (1 : Int) ≤ 2 ^ g ∧ (2 : Int) ^ g ≤ 64 := by
  match g, h with
  | 0, _ => decide
  | 1, _ => decide
  | 2, _ => decide
  | 3, _ => decide
  | 4, _ => decide
  | 5, _ => decide
  | 6, _ => decide
theorem OI.ybd {s d t : Int} {g : Nat} {k x y : Int} (h : OI s d t g k x y) (hd : 1 ≤ d) : d ≤ y ∧ y ≤ 64 * d := by
  have h1 := (pow_bd h.g6).1
  have h2 := (pow_bd h.g6).2
  have h3 := mul_mono h1 (show 0 ≤ d by omega)
  have h4 := mul_mono h2 (show 0 ≤ d by omega)
  rw [h.yg]
  omega
theorem OI.half {s d t : Int} {g : Nat} {k x y : Int} (h : OI s d t g k x y) (hd : 1 ≤ d) (h1 : ¬ x - d + s ≤ t) (h2 : x - y + s ≤ t) : ∃ g', g = g' + 1 ∧ OI s d t g' k x (y / 2) := by
  rw [h.one hd] at h1
  rw [h.two hd] at h2
  have := h.ge
  match g, h, h2 with
  | 0, h, h2 => simp at h2; omega
  | g' + 1, h, _ =>
    refine ⟨g', rfl, h.xk, h.ge, h.hi, by have := h.g6; omega, ?_⟩
    have e : y = 2 * (2 ^ g' * d) := by rw [h.yg, Int.pow_succ, Int.mul_comm (2 ^ g') 2, Int.mul_assoc]
    rw [e]
    exact Int.mul_ediv_cancel_left _ (by decide)
theorem OI.on {s d t : Int} {g : Nat} {k x y : Int} (h : OI s d t g k x y) (hd : 1 ≤ d) (h2 : ¬ x - y + s ≤ t) : OI s d t g (k - 2 ^ g) (x - y) y ∧ oldK s d t ≤ k - 2 ^ g ∧ k - 2 ^ g + 1 ≤ k := by
  have hy := h.ybd hd
  rw [h.two hd] at h2
  have hp := (pow_bd h.g6).1
  exact ⟨⟨by rw [Int.sub_mul, ← h.xk, ← h.yg], by omega, by have := h.hi; omega, h.g6, h.yg⟩, by omega, by omega⟩
theorem OI.start {s d t : Int} (hs : 1 ≤ s) (hd : 1 ≤ d) : OI s d t 6 (t.tdiv d + 1) (t.tdiv d * d + d) (64 * d) := by
  have hn := tdiv_near (t := t) hd
  refine ⟨by rw [Int.add_mul, Int.one_mul], ?_, by omega, Nat.le_refl _, rfl⟩
  rw [oldK_le hd, Int.add_mul, Int.one_mul]
  omega

set_option maxHeartbeats 2000000 in
theorem oldest_any {s d l t : Int} (h : OkV s d l) (ht : Tm t) (w : World) : Calls Try.prog 105 #[.agg #[.int .i64 s, .int .i64 d, .int .i64 l], .int .i64 t] w fun e w' => e = .returned (.int .i64 (oldK s d t * d)) ∧ Fr w w' (fun _ => False) := by
  have hnear := tdiv_near (t := t) h.d1
  have ht1 := ht.1
  have ht2 := ht.2
  have hd1 := h.d1
  have hd2 := h.d2
  have hs1 := h.s1
  have hs2 := h.s2
  have hw1 : IntKind.i64.wrap (t.tdiv d * d) = t.tdiv d * d := wrap_fit (by unfold fits; omega)
  have hw2 : IntKind.i64.wrap (t.tdiv d * d + d) = t.tdiv d * d + d := wrap_fit (by unfold fits; omega)
  have hd0 : (d == 0) = false := by simp; omega
  have hd3 : ¬ d = 0 := by omega
  have HOI := hid (OI.start (t := t) h.s1 h.d1)
  have HV := hid h
  have HT := hid ht
  clear hnear h ht
  go_enter Try.func105, Try.ntmps105
  go_wp2_with fail
  go_step3
  go_wp2_with fail
  go_region
  clear hw1 hw2
  generalize t.tdiv d * d + d = x0 at *
  generalize t.tdiv d + 1 = k0 at *
  go_wp2_with fail
  go_step3
  go_wp2_with fail
  go_loopg [5, 6] 6 (fun g s5 s6 wx => ∃ k x y, s5 = .int .i64 x ∧ s6 = .int .i64 y ∧ Hid (OI s d t g k x y) ∧ Hid (VwAt wx w.heap.size s d l) ∧ Hid (Fr w wx (fun _ => False)))
  case atStart => exact ⟨k0, x0, 64 * d, rfl, rfl, HOI, VwAt.new w s d l, (alloc_fr _ _ _).drew⟩
  case round =>
    obtain ⟨k, x, y, rfl, rfl, HO, HVW, HFR⟩ := hrel
    clear HOI
    go_wp2_with fail
    obtain ⟨wo, rfl⟩ : ∃ wo : World, wo = wr := ⟨_, rfl⟩
    obtain ⟨G, rfl⟩ : ∃ G : Nat, G = gk := ⟨_, rfl⟩
    go_loopg [5] (k - oldK s d t).toNat (fun g s5 wx => ∃ k' x', s5 = .int .i64 x' ∧ Hid (OI s d t G k' x' y) ∧ Hid ((k' - oldK s d t).toNat ≤ g) ∧ Hid (VwAt wx w.heap.size s d l) ∧ Hid (Fr w wx (fun _ => False)))
    case atStart => exact ⟨k, x, rfl, HO, Nat.le_refl _, HVW, HFR⟩
    case round =>
      clear HO HVW HFR
      obtain ⟨k', x', rfl, HO, HG, HVW, HFR⟩ := hrel
      obtain ⟨c0, c1, c2⟩ := HVW.out.cells
      have hlt := HVW.out.lt
      have hx1 := HO.out.lo hd1
      have hx2 := HO.out.hi
      obtain ⟨hy1, hy2⟩ := HO.out.ybd hd1
      have HE1 := hid (fun W : World => end_any s d l (x' - d) (by unfold fits; omega) W)
      have HE2 := hid (fun W : World => end_any s d l (x' - y) (by unfold fits; omega) W)
      go_wp2_with fail
      refine (HE1.out _).mono ?_
      rintro e w1 ⟨rfl, hf1⟩
      have HVW1 := hid (HVW.out.fr hf1 (fun h => h))
      have HFR1 := hid (HFR.out.trans hf1)
      clear c0 c1 c2 hf1 HVW HFR hlt
      obtain ⟨c0, c1, c2⟩ := HVW1.out.cells
      have hlt := HVW1.out.lt
      by_cases t1 : x' - d + s ≤ t
      · have HK := hid ((HO.out.one hd1).1 t1)
        have HX := hid HO.out.xk
        go_wp2_with fail
        rw [HX.out, HK.out]
        try rw [Exit.noGoto_ret]
        go_ret
        exact ⟨rfl, HFR1.out⟩
      · go_wp2_with fail
        refine (HE2.out _).mono ?_
        rintro e w2 ⟨rfl, hf2⟩
        have HVW2 := hid (HVW1.out.fr hf2 (fun h => h))
        have HFR2 := hid (HFR1.out.trans hf2)
        clear hf2 HVW1 HFR1 c0 c1 c2 hlt
        by_cases t2 : x' - y + s ≤ t
        · obtain ⟨G', rfl, HO2⟩ := HO.out.half hd1 (by omega) t2
          have HO3 := hid HO2
          clear HO2
          go_wp2_with fail
          go_roundg G'
          case measure => omega
          case rel => exact ⟨k', x', _, rfl, rfl, HO3, HVW2, HFR2⟩
        · have HO3 := hid (HO.out.on hd1 (by omega))
          have hg := HG.out
          have hm : (k' - 2 ^ G - oldK s d t).toNat + 1 ≤ gk := by have := HO3.out.2.1; have := HO3.out.2.2; omega
          have HM := hid hm
          clear hm hg
          go_wp2_with fail
          go_roundg (gk - 1)
          case measure => have := HM.out; omega
          case rel => exact ⟨_, _, rfl, HO3.out.1, by have := HM.out; show _ ≤ _; omega, HVW2, HFR2⟩
end Go.Proofs.Ytbhhpkbiflolfaa
