/- spatelaw16: within, head: walks. -/
import Derived.Test.YtedlpefglgleeabNWrap
namespace Go.Proofs.Ytedlpefglgleeab
open Go.RowKit

/-- A literal's bytes. -/
theorem lit_bs (W : World) (xs : List Nat) (cs : Array Value) (n : Nat) (hcs : cs.toList = by8 xs) (hn : xs.length = n) (hm : n ≤ 1000) : Bs (W.alloc (.cells cs 5)) (.slice (some ⟨W.heap.size, 0, none⟩) n n) xs := own_bs (lit_own W xs cs 5 n hcs hn (by omega))
def hs1 : Np := openS (np0 4 3) 1
def hs2 : Np := sendS hs1 1 [1, 2, 3, 4, 5, 6]
def hs3 : Np := bringS hs2 1 3
def hs4 : Np := bringS hs3 1 9
def hs5 : Np := takeS hs4 1
theorem hf1 : openE (np0 4 3) 1 = 0 := by decide +kernel
theorem hf2 : sendE hs1 1 [1, 2, 3, 4, 5, 6] = 0 := by decide +kernel
theorem hf3 : bringK hs2 1 3 = 3 ∧ findE hs2 1 = 0 ∧ hs2.m = 0 := by decide +kernel
theorem hf4 : bringK hs3 1 9 = 1 ∧ findE hs3 1 = 0 ∧ hs3.m = 3 := by decide +kernel
theorem hf5 : takeB hs4 1 = [1, 2, 3, 4] ∧ useE hs4 1 = 0 := by decide +kernel
theorem hf6 : hs5.m = 4 := by decide +kernel
set_option maxHeartbeats 4000000 in
set_option maxRecDepth 100000 in
theorem head_any (w : World) : Calls Try.prog 8 #[] w fun e w' => e = .returned (.bool true) ∧ Fr w w' (fun _ => False) := by
  have HN := hid (nnew_i (w := w) w (a := 4) (b := 3) (by omega) (by omega) (Fr.refl _ _))
  have HO := hid (fun (W : World) (B : Nat) (h : NI w W B (np0 4 3)) => h.open 1)
  rw [hf1] at HO
  have HS : Hid (∀ (W : World) (B : Nat), NI w W B hs1 → Calls Try.prog 9 #[.pointer (some ⟨B, 0, none⟩), .int .i64 1, .slice (some ⟨W.heap.size, 0, none⟩) 6 6] (W.alloc (.cells #[.int .u8 1, .int .u8 2, .int .u8 3, .int .u8 4, .int .u8 5, .int .u8 6] 5)) fun e w' => e = .returned (.int .i64 0) ∧ NI w w' B hs2) := fun W B h => by
    have := (h.still (alloc_fr W (.cells #[.int .u8 1, .int .u8 2, .int .u8 3, .int .u8 4, .int .u8 5, .int .u8 6] 5) _)).send 1 (zs := [1, 2, 3, 4, 5, 6]) rfl (lit_bs W [1, 2, 3, 4, 5, 6] _ 6 rfl rfl (by omega)) (Nat.le_refl _)
    rw [hf2] at this
    exact this
  have HB3 := hid (fun (W : World) (B : Nat) (h : NI w W B hs2) => h.bring (by rw [hf3.2.2]; omega) 1 3)
  rw [hf3.1, hf3.2.1] at HB3
  have HB4 := hid (fun (W : World) (B : Nat) (h : NI w W B hs3) => h.bring (by rw [hf4.2.2]; omega) 1 9)
  rw [hf4.1, hf4.2.1] at HB4
  have HT := hid (fun (W : World) (B : Nat) (h : NI w W B hs4) => h.take 1)
  rw [hf5.1, hf5.2] at HT
  have HM := hid (fun (W : World) (B : Nat) (h : NI w W B hs5) => h.moved)
  rw [hf6] at HM
  go_enter Try.func8, Try.ntmps8
  go_wp2_with fail
  refine HN.out.mono ?_
  rintro e w1 ⟨B, rfl, h1⟩
  have H1 := hid h1
  clear h1 HN
  go_wp2_with fail
  refine (HO.out _ _ H1.out).mono ?_
  rintro e w2 ⟨rfl, h1⟩
  have H2 := hid h1
  clear h1 H1
  go_wp2_with fail
  refine (HS.out _ _ H2.out).mono ?_
  rintro e w3 ⟨rfl, h1⟩
  have H3 := hid h1
  clear h1 H2
  go_wp2_with fail
  refine (HB3.out _ _ H3.out).mono ?_
  rintro e w4 ⟨rfl, h1⟩
  have H4 : Hid (NI w w4 B hs3) := h1
  clear h1 H3
  go_wp2_with fail
  refine (HB4.out _ _ H4.out).mono ?_
  rintro e w5 ⟨rfl, h1⟩
  have H5 : Hid (NI w w5 B hs4) := h1
  clear h1 H4
  go_wp2_with fail
  refine (HT.out _ _ H5.out).mono ?_
  rintro e w6 ⟨v, rfl, hv, h1⟩
  have H6 : Hid (NI w w6 B hs5) := h1
  clear h1 H5
  obtain ⟨ao, cap, hsv, _, _⟩ := hv.shape
  rw [show [1, 2, 3, 4].length = 4 from rfl] at hsv
  subst hsv
  have hc1 := run_str8 Try.underlying22 Try.underlying5 Try.underlying9 (bs_all hv)
  rw [show [1, 2, 3, 4].length = 4 from rfl] at hc1
  have hc2 := run_str8 Try.underlying22 Try.underlying5 Try.underlying9 (lit_bs w6 [1, 2, 3, 4] #[.int .u8 1, .int .u8 2, .int .u8 3, .int .u8 4] 4 rfl rfl (by omega))
  generalize str8 [1, 2, 3, 4] = S at hc1 hc2
  have HM2 := hid (HM.out _ _ (H6.out.still (alloc_fr w6 (.cells #[.int .u8 1, .int .u8 2, .int .u8 3, .int .u8 4] 5) _)))
  clear hv
  go_wp2_with fail
  refine HM2.out.mono ?_
  rintro e w7 ⟨rfl, h1, h9⟩
  have H7 := hid h1
  clear h1 h9 hc1 hc2
  go_wp2_with fail
  go_ret
  exact ⟨rfl, H7.out.fr⟩
end Go.Proofs.Ytedlpefglgleeab
