/- The document's Plus, whole. -/
import Derived.Test.YtbhhpkbiflolfaaARefA3

namespace Go.Proofs.Ytbhhpkbiflolfaa.A
open Go.RowKit

theorem refV_mk {z H L : Int} {s : Bool} (h1 : H = nhi z) (h2 : L = nlo z) (h3 : s = decide (z < 0)) : Value.agg #[.bool s, .int .u64 H, .int .u64 L] = refV z := by
  subst h1 h2 h3
  rfl
theorem abs_halves (x : Int) : absI x = nhi x * 18446744073709551616 + nlo x := by unfold nhi nlo; omega
theorem halves_of {z H L : Int} (h : absI z = H * 18446744073709551616 + L) (h0 : 0 ≤ L) (h1 : L ≤ 18446744073709551615) : H = nhi z ∧ L = nlo z := by unfold nhi nlo; omega

theorem rplus_same (x y : Int) (hx : room2 x) (hy : room2 y) (h : decide (x < 0) = decide (y < 0)) (w : World) :
    Calls Try.prog 49 #[refV x, refV y] w fun e w' => e = .returned (refV (x + y)) ∧ Fr w w' (fun _ => False) := by
  have a1 := nhi_bd x
  have a2 := nhi_room hx
  have c1 := nhi_bd y
  have c2 := nhi_room hy
  obtain ⟨b1, b2⟩ := nlo_bd x
  obtain ⟨d1, d2⟩ := nlo_bd y
  have hab := same_abs h
  have hng := same_neg h
  rw [zero_iff] at hng
  rw [abs_halves x, abs_halves y] at hab
  by_cases hc : nlo x + nlo y ≤ 18446744073709551615
  · obtain ⟨e1, e2⟩ := halves_of (z := x + y) (H := nhi x + nhi y) (L := nlo x + nlo y) (by omega) (by omega) hc
    rw [← e1, ← e2] at hng
    by_cases g : x < 0
    · have gx : decide (x < 0) = true := by simpa using g
      have gy : decide (y < 0) = true := by rw [← h]; exact gx
      rw [gx] at hng
      by_cases z : nhi x + nhi y = 0
      · have hz : (nhi x + nhi y == 0) = true := by simpa using z
        have := plus_same_t_nz (nhi x) (nlo x) (nhi y) (nlo y) a1 a2 c1 c2 b1 b2 d1 d2 hc hz w
        rw [refV_mk (z := x + y) e1 e2 (by rw [hng, hz]; simp [bne])] at this
        unfold refV at *
        rw [gx, gy]
        exact this
      · have hz : (nhi x + nhi y == 0) = false := by simpa using z
        have := plus_same_t_np (nhi x) (nlo x) (nhi y) (nlo y) a1 a2 c1 c2 b1 b2 d1 d2 hc hz w
        rw [refV_mk (z := x + y) e1 e2 (by rw [hng, hz]; simp)] at this
        unfold refV at *
        rw [gx, gy]
        exact this
    · have gx : decide (x < 0) = false := by simpa using g
      have gy : decide (y < 0) = false := by rw [← h]; exact gx
      rw [gx] at hng
      have := plus_same_f_n (nhi x) (nlo x) (nhi y) (nlo y) a1 a2 c1 c2 b1 b2 d1 d2 hc w
      rw [refV_mk (z := x + y) e1 e2 (by rw [hng]; simp)] at this
      unfold refV at *
      rw [gx, gy]
      exact this
  · obtain ⟨e1, e2⟩ := halves_of (z := x + y) (H := nhi x + nhi y + 1) (L := nlo x + nlo y - 18446744073709551616) (by omega) (by omega) (by omega)
    have hw : IntKind.u64.wrap (nlo x + nlo y) = nlo x + nlo y - 18446744073709551616 := by rw [IntKind.wrap_u64]; omega
    rw [← e1, ← e2] at hng
    by_cases g : x < 0
    · have gx : decide (x < 0) = true := by simpa using g
      have gy : decide (y < 0) = true := by rw [← h]; exact gx
      rw [gx] at hng
      have hz : (nhi x + nhi y + 1 == 0) = false := by simp; omega
      have := plus_same_t_cp (nhi x) (nlo x) (nhi y) (nlo y) _ a1 a2 c1 c2 hw (by omega) hz w
      rw [refV_mk (z := x + y) e1 e2 (by rw [hng, hz]; simp)] at this
      unfold refV at *
      rw [gx, gy]
      exact this
    · have gx : decide (x < 0) = false := by simpa using g
      have gy : decide (y < 0) = false := by rw [← h]; exact gx
      rw [gx] at hng
      have := plus_same_f_c (nhi x) (nlo x) (nhi y) (nlo y) _ a1 a2 c1 c2 hw (by omega) w
      rw [refV_mk (z := x + y) e1 e2 (by rw [hng]; simp)] at this
      unfold refV at *
      rw [gx, gy]
      exact this

theorem rplus_diff (x y : Int) (hx : room2 x) (hy : room2 y) (h : decide (x < 0) ≠ decide (y < 0)) (hle : absI y ≤ absI x) (w : World) :
    Calls Try.prog 49 #[refV x, refV y] w fun e w' => e = .returned (refV (x + y)) ∧ Fr w w' (fun _ => False) := by
  have a1 := nhi_bd x
  have a2 := nhi_room hx
  have c1 := nhi_bd y
  have c2 := nhi_room hy
  obtain ⟨b1, b2⟩ := nlo_bd x
  obtain ⟨d1, d2⟩ := nlo_bd y
  have hab := diff_abs h hle
  have hng := diff_neg h hle
  have HAB : Hid (∀ W : World, Calls Try.prog 81 #[refV y, refV x] W fun e w' => e = .returned (.bool false) ∧ Fr W w' (fun _ => False)) := by
    intro W
    have := above_any y x W
    rw [show decide (absI x < absI y) = false from by simpa using hle] at this
    exact this
  rw [zero_iff] at hng
  rw [abs_halves x, abs_halves y] at hab hle
  by_cases g : x < 0
  · have gx : decide (x < 0) = true := by simpa using g
    have gy : decide (y < 0) = false := by
      cases k : decide (y < 0) with
      | false => rfl
      | true => rw [gx, k] at h; exact absurd rfl h
    rw [gx] at hng
    unfold refV at HAB
    rw [gx, gy] at HAB
    by_cases hc : nlo y ≤ nlo x
    · obtain ⟨e1, e2⟩ := halves_of (z := x + y) (H := nhi x - nhi y) (L := nlo x - nlo y) (by omega) (by omega) (by omega)
      rw [← e1, ← e2] at hng
      by_cases z : nhi x - nhi y = 0
      · have hz : (nhi x - nhi y == 0) = true := by simpa using z
        have := plus_diff_t_nz (nhi x) (nlo x) (nhi y) (nlo y) a1 a2 c1 c2 b1 b2 d1 d2 hc (by omega) HAB hz w
        rw [refV_mk (z := x + y) e1 e2 (by rw [hng, hz]; simp [bne])] at this
        unfold refV at *
        rw [gx, gy]
        exact this
      · have hz : (nhi x - nhi y == 0) = false := by simpa using z
        have := plus_diff_t_np (nhi x) (nlo x) (nhi y) (nlo y) a1 a2 c1 c2 b1 b2 d1 d2 hc (by omega) HAB hz w
        rw [refV_mk (z := x + y) e1 e2 (by rw [hng, hz]; simp)] at this
        unfold refV at *
        rw [gx, gy]
        exact this
    · obtain ⟨e1, e2⟩ := halves_of (z := x + y) (H := nhi x - nhi y - 1) (L := nlo x - nlo y + 18446744073709551616) (by omega) (by omega) (by omega)
      have hw : IntKind.u64.wrap (nlo x - nlo y) = nlo x - nlo y + 18446744073709551616 := by rw [IntKind.wrap_u64]; omega
      rw [← e1, ← e2] at hng
      by_cases z : nhi x - nhi y - 1 = 0
      · have hz : (nhi x - nhi y - 1 == 0) = true := by simpa using z
        have := plus_diff_t_cz (nhi x) (nlo x) (nhi y) (nlo y) _ a1 a2 c1 c2 hw (by omega) (by omega) HAB hz w
        rw [refV_mk (z := x + y) e1 e2 (by rw [hng, hz]; simp [bne])] at this
        unfold refV at *
        rw [gx, gy]
        exact this
      · have hz : (nhi x - nhi y - 1 == 0) = false := by simpa using z
        have := plus_diff_t_cp (nhi x) (nlo x) (nhi y) (nlo y) _ a1 a2 c1 c2 hw (by omega) (by omega) HAB hz w
        rw [refV_mk (z := x + y) e1 e2 (by rw [hng, hz]; simp)] at this
        unfold refV at *
        rw [gx, gy]
        exact this
  · have gx : decide (x < 0) = false := by simpa using g
    have gy : decide (y < 0) = true := by
      cases k : decide (y < 0) with
      | true => rfl
      | false => rw [gx, k] at h; exact absurd rfl h
    rw [gx] at hng
    unfold refV at HAB
    rw [gx, gy] at HAB
    by_cases hc : nlo y ≤ nlo x
    · obtain ⟨e1, e2⟩ := halves_of (z := x + y) (H := nhi x - nhi y) (L := nlo x - nlo y) (by omega) (by omega) (by omega)
      have := plus_diff_f_n (nhi x) (nlo x) (nhi y) (nlo y) a1 a2 c1 c2 b1 b2 d1 d2 hc (by omega) HAB w
      rw [refV_mk (z := x + y) e1 e2 (by rw [hng]; simp)] at this
      unfold refV at *
      rw [gx, gy]
      exact this
    · obtain ⟨e1, e2⟩ := halves_of (z := x + y) (H := nhi x - nhi y - 1) (L := nlo x - nlo y + 18446744073709551616) (by omega) (by omega) (by omega)
      have hw : IntKind.u64.wrap (nlo x - nlo y) = nlo x - nlo y + 18446744073709551616 := by rw [IntKind.wrap_u64]; omega
      have := plus_diff_f_c (nhi x) (nlo x) (nhi y) (nlo y) _ a1 a2 c1 c2 hw (by omega) (by omega) HAB w
      rw [refV_mk (z := x + y) e1 e2 (by rw [hng]; simp)] at this
      unfold refV at *
      rw [gx, gy]
      exact this

set_option maxHeartbeats 1000000 in
theorem rplus_swap (x y : Int) (hx : room2 x) (hy : room2 y) (h : decide (x < 0) ≠ decide (y < 0)) (hlt : absI x < absI y) (w : World) :
    Calls Try.prog 49 #[refV x, refV y] w fun e w' => e = .returned (refV (x + y)) ∧ Fr w w' (fun _ => False) := by
  have HD := hid (fun W : World => rplus_diff y x hy hx h.symm (by omega) W)
  rw [Int.add_comm] at HD
  have HAB := hid (fun W : World => above_any y x W)
  rw [show decide (absI x < absI y) = true from by simpa using hlt] at HAB
  unfold refV at *
  have b1 : (decide (x < 0) == decide (y < 0)) = false := by simpa using h
  have b2 : decide (x < 0) = !decide (y < 0) := by
    cases k : decide (x < 0) <;> cases l : decide (y < 0) <;> simp_all
  generalize decide (x + y < 0) = s at *
  generalize decide (x < 0) = p at *
  generalize decide (y < 0) = q at *
  clear h b1
  subst b2
  clear hlt
  cases q
  all_goals
    go_enter Try.func49, Try.ntmps49
    go_wp2_with fail
    refine (HAB.out _).mono ?_
    rintro e w1 ⟨rfl, hf⟩
    obtain ⟨hc1, hc2⟩ := fr_rules hf
    have hz1 : w.heap.size + 1 + 1 < w1.heap.size := by have := hf.size; simp at this; omega
    have HF := hid ((((alloc_fr w _ _).alloc _).alloc _).trans hf)
    clear hf HAB
    go_wp2_with fail
    refine (HD.out _).mono ?_
    rintro e w2 ⟨rfl, hf⟩
    obtain ⟨hd1, hd2⟩ := fr_rules hf
    have hz2 : w.heap.size + 1 + 1 < w2.heap.size := by have := hf.size; omega
    have HF2 := hid (HF.out.trans hf)
    clear hf HF HD
    go_wp2_with fail
    exact bodyPost_ret (v := .agg #[.bool s, .int .u64 (nhi (x + y)), .int .u64 (nlo (x + y))]) (by simp [results, Try.results49, go_sem, hc1, hd1, hz1]) rfl ⟨rfl, ((HF2.out.setCell (fun h => by simp at h; omega) _).setCell (fun h => by simp at h; omega) _).setCell (fun h => by simp at h; omega) _⟩

theorem rplus_any (x y : Int) (hx : room2 x) (hy : room2 y) (w : World) :
    Calls Try.prog 49 #[refV x, refV y] w fun e w' => e = .returned (refV (x + y)) ∧ Fr w w' (fun _ => False) := by
  by_cases h : decide (x < 0) = decide (y < 0)
  · exact rplus_same x y hx hy h w
  · by_cases hle : absI y ≤ absI x
    · exact rplus_diff x y hx hy h hle w
    · exact rplus_swap x y hx hy h (by omega) w
end Go.Proofs.Ytbhhpkbiflolfaa.A
