import Derived.Test.YtilgkfpicdmkkaaMDownI
/- container/heap over merge's rests: Push, Fix, Pop: walks (lists of int). -/
namespace Go.Proofs.Ytilgkfpicdmkkaa.M.I
open Go.RowKit
variable {S : Rt → Value}

set_option maxHeartbeats 1000000 in
set_option maxRecDepth 100000 in
theorem hpush_any {w0 wk : World} {B : Nat} {v : Value} {hs : List Rt} (x : Rt) (w : World) (h : Rs S fv w0 wk w B v hs) (hH : ∀ r ∈ hs, Hd S w0 r) (hx : Hd S w0 x) (hS : ∀ r, ∃ a n c, S r = .slice a n c) (hl : hs.length < 1000000) :
    Calls Try.prog 42 #[hv B, .iface 95 (.agg #[.int .i64 (x.p : Int), S x])] w fun e w' => e = .returned (.tuple #[]) ∧ ∃ v', Rs S fv w0 wk w' B v' (up (ltR cmE) (hs ++ [x]) hs.length) := by
  have HP := hid (push_any x (hS x) w h hl)
  have HH := hid hH
  have HX := hid hx
  have HS := hid hS
  have m1 := Try.mPushI
  have m2 := Try.mLenI
  obtain ⟨ax, nx, cx, hsx⟩ := hS x
  rw [hsx] at HP ⊢
  clear h hH hx hS
  go_enter Try.func42, Try.ntmps42
  go_wp2_with fail
  refine HP.out.mono ?_
  rintro e w1 ⟨rfl, v', hr⟩
  have HR := hid hr
  have HL := hid (len_any w1 hr)
  have hll : (hs ++ [x]).length = hs.length + 1 := by simp
  rw [hll] at HL
  have t1 : ((hs.length + 1 : Nat) : Int) - 1 = (hs.length : Int) := by omega
  have HU := hid (up_any hs.length (by omega) w1 hr (fun r hr => by
    rcases List.mem_append.1 hr with h | h
    · exact HH.out r h
    · rw [List.mem_singleton.1 h]; exact HX.out) HS.out)
  clear hr hll
  go_wp2_with fail
  refine HL.out.mono ?_
  rintro e w2 ⟨rfl, rfl⟩
  go_wp2_with fail
  refine HU.out.mono ?_
  rintro e w3 ⟨rfl, hr3⟩
  have HR3 := hid hr3
  clear hr3
  go_wp2_with fail
  go_end0
  exact ⟨rfl, _, HR3.out⟩

theorem up_zero (xs : List Rt) : up (ltR cmE) xs 0 = xs := by
  rw [up, dif_pos (Or.inl (show par 0 = 0 from rfl))]

set_option maxHeartbeats 1000000 in
set_option maxRecDepth 100000 in
theorem fix_any {w0 wk : World} {B : Nat} {v : Value} {hs : List Rt} (w : World) (h : Rs S fv w0 wk w B v hs) (hH : ∀ r ∈ hs, Hd S w0 r) (hS : ∀ r, ∃ a n c, S r = .slice a n c) (hl : 0 < hs.length) :
    Calls Try.prog 44 #[hv B, .int .i64 0] w fun e w' => e = .returned (.tuple #[]) ∧ Rs S fv w0 wk w' B v (down (ltR cmE) hs 0 hs.length).1 := by
  have HL := hid (len_any w h)
  have HD := hid (down_any 0 hs.length (by omega) (Nat.le_refl _) w h (fun r hr => hH r (List.mem_of_mem_take hr)) hS)
  have HU := hid (fun W (h' : Rs S fv w0 wk W B v (down (ltR cmE) hs 0 hs.length).1) => up_any 0 (by rw [down_len _ _ _ _ rfl]; exact hl) W h' (fun r hr => hH r ((down_perm _ _ _ _ rfl (Nat.le_refl _)).mem_iff.1 hr)) hS)
  rw [up_zero] at HU
  generalize down (ltR cmE) hs 0 hs.length = d at *
  obtain ⟨ys, k⟩ := d
  have m2 := Try.mLenI
  clear h hH hS
  by_cases hk : 0 < k
  · have t1 : decide (0 < k) = true := by simpa using hk
    rw [t1] at HD
    clear t1
    go_enter Try.func44, Try.ntmps44
    go_wp2_with fail
    refine HL.out.mono ?_
    rintro e w1 ⟨rfl, rfl⟩
    go_wp2_with fail
    refine HD.out.mono ?_
    rintro e w2 ⟨rfl, hr⟩
    have HR := hid hr
    clear hr
    go_wp2_with fail
    go_end0
    exact ⟨rfl, HR.out⟩
  · have t1 : decide (0 < k) = false := by simpa using hk
    rw [t1] at HD
    clear t1
    go_enter Try.func44, Try.ntmps44
    go_wp2_with fail
    refine HL.out.mono ?_
    rintro e w1 ⟨rfl, rfl⟩
    go_wp2_with fail
    refine HD.out.mono ?_
    rintro e w2 ⟨rfl, hr⟩
    have HU2 := hid (HU.out _ hr)
    clear hr
    go_wp2_with fail
    refine HU2.out.mono ?_
    rintro e w3 ⟨rfl, hr⟩
    have HR := hid hr
    clear hr
    go_wp2_with fail
    go_end0
    exact ⟨rfl, HR.out⟩

theorem mem_pop {y : Rt} {xs : List Rt} : ∀ r ∈ (swap (y :: xs) 0 xs.length).take xs.length, r ∈ xs := by
  intro r hr
  obtain ⟨k, hk, e⟩ := List.mem_iff_getElem.1 hr
  have hk1 : k < xs.length := by simp at hk; omega
  have e2 : at' (swap (y :: xs) 0 xs.length) k = r := by
    rw [at_get (by rw [swap_len]; simp; omega)]
    rw [← e]
    simp
  rw [at_swap (by simp) (by simp), if_neg (by omega)] at e2
  split at e2
  · rw [← e2]
    cases hx : xs with
    | nil => rw [hx] at hk1; simp at hk1
    | cons z zs =>
      have : at' (y :: z :: zs) (z :: zs).length = at' (z :: zs) zs.length := rfl
      rw [this]
      exact at_mem (by simp)
  · rw [← e2]
    cases k with
    | zero => rename_i h; exact absurd rfl h
    | succ k =>
      have : at' (y :: xs) (k + 1) = at' xs k := rfl
      rw [this]
      exact at_mem (by omega)

set_option maxHeartbeats 1000000 in
set_option maxRecDepth 100000 in
theorem hpop_any {w0 wk : World} {B : Nat} {v : Value} {y : Rt} {xs : List Rt} (w : World) (h : Rs S fv w0 wk w B v (y :: xs)) (hH : ∀ r ∈ xs, Hd S w0 r) (hS : ∀ r, ∃ a n c, S r = .slice a n c) :
    Calls Try.prog 45 #[hv B] w fun e w' => (∃ x, e = .returned x) ∧ ∃ v', Rs S fv w0 wk w' B v' (popH (ltR cmE) (y :: xs)) := by
  have HL := hid (len_any w h)
  have HSw := hid (swap_any 0 xs.length (by simp) (by simp) hS w h)
  have HD := hid (fun W (h' : Rs S fv w0 wk W B v (swap (y :: xs) 0 xs.length)) => down_any 0 xs.length (by omega) (by rw [swap_len]; simp) W h' (fun r hr => hH r (mem_pop r hr)) hS)
  have HP := hid (fun W (h' : Rs S fv w0 wk W B v (down (ltR cmE) (swap (y :: xs) 0 xs.length) 0 xs.length).1) => pop_any hS W h' (by rw [down_len _ _ _ _ rfl, swap_len]; simp))
  have hlen := h.len
  simp only [List.length_cons] at hlen
  have hpe : popH (ltR cmE) (y :: xs) = (down (ltR cmE) (swap (y :: xs) 0 xs.length) 0 xs.length).1.dropLast := rfl
  rw [hpe]
  generalize down (ltR cmE) (swap (y :: xs) 0 xs.length) 0 xs.length = d at *
  have hl1 : (y :: xs).length = xs.length + 1 := rfl
  rw [hl1] at HL
  have t1 : ((xs.length + 1 : Nat) : Int) - 1 = (xs.length : Int) := by omega
  have m1 := Try.mLenI
  have m2 := Try.mSwapI
  have m3 := Try.mPopI
  clear h hH hS hl1 hpe
  go_enter Try.func45, Try.ntmps45
  go_wp2_with fail
  refine HL.out.mono ?_
  rintro e w1 ⟨rfl, rfl⟩
  go_wp2_with fail
  refine HSw.out.mono ?_
  rintro e w2 ⟨rfl, hr⟩
  have HD2 := hid (HD.out _ hr)
  clear hr
  go_wp2_with fail
  refine HD2.out.mono ?_
  rintro e w3 ⟨rfl, hr⟩
  have HP2 := hid (HP.out _ hr)
  clear hr
  go_wp2_with fail
  refine HP2.out.mono ?_
  rintro e w4 ⟨⟨x, rfl⟩, v', hr⟩
  have HR := hid hr
  clear hr
  go_wp2_with fail
  go_ret
  exact ⟨⟨_, rfl⟩, _, HR.out⟩
end Go.Proofs.Ytilgkfpicdmkkaa.M.I
