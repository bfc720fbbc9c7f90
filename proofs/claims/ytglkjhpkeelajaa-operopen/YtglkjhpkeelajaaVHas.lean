/- The laws' has, rises, end, within: walks. -/
import Derived.Test.YtglkjhpkeelajaaVDo
namespace Go.Proofs.Ytglkjhpkeelajaa.V
open Go.RowKit Go.Maps
open M (Cl cmpC cmC cmpC_zero cmpC_flip vC compareC_any)

theorem eqC_run (a b : Cl) (W : World) : (binOp .eql 64 (.agg #[.int .i64 a.v, .string a.k, .int .i64 a.s]) (.agg #[.int .i64 b.v, .string b.k, .int .i64 b.s])).run Try.prog W = .ok (.bool (decide (a = b))) W := by
  have e : (a = b) ↔ (a.v = b.v ∧ a.k.toList = b.k.toList ∧ a.s = b.s) := by
    constructor
    · rintro rfl; exact ⟨rfl, rfl, rfl⟩
    · rintro ⟨h1, h2, h3⟩
      obtain ⟨av, ak, az⟩ := a
      obtain ⟨bv, bk, bz⟩ := b
      simp only at h1 h2 h3
      have h4 : ak = bk := by
        rw [ByteArray.toList_eq, ByteArray.toList_eq] at h2
        exact ByteArray.ext (Array.toList_inj.1 h2)
      subst h1 h4 h3
      rfl
  rw [show decide (a = b) = decide (a.v = b.v ∧ a.k.toList = b.k.toList ∧ a.s = b.s) from decide_eq_decide.2 e]
  clear e
  go_simp
  by_cases h1 : a.v = b.v
  · by_cases h2 : a.k.toList = b.k.toList
    · by_cases h3 : a.s = b.s
      · simp [h1, h2, h3]
      · simp [h1, h2, h3]
    · simp [h1, h2]
  · simp [h1]

set_option maxHeartbeats 2000000 in
set_option maxRecDepth 100000 in
theorem has_any {w : World} {v : Value} {L : List Cl} (h : Ks w v L) (c : Cl) : Calls Try.prog 26 #[v, vC c] w fun e w' => e = .returned (.bool (decide (c ∈ L))) ∧ Fr w w' (fun _ => False) := by
  have HK := hid h
  obtain ⟨ao, cap, rfl, hl, _⟩ := id h
  clear h
  unfold vC
  obtain ⟨N, hN⟩ : ∃ N, N = w.heap.size := ⟨_, rfl⟩
  have HN := hid hN
  have HB : Hid ((w.alloc (.cells #[.int .i64 c.v, .string c.k, .int .i64 c.s] 64)).heap[N]? = some (.cells #[.int .i64 c.v, .string c.k, .int .i64 c.s] 64 (0, 0))) := heap_last _ _ _ hN.symm
  have HF := hid (alloc_fr w (.cells #[.int .i64 c.v, .string c.k, .int .i64 c.s] 64) (fun _ => False))
  obtain ⟨R, hR⟩ : ∃ R, R = decide (c ∈ L) := ⟨_, rfl⟩
  rw [← hR]
  have HR := hid hR
  clear hR
  go_enter Try.func26, Try.ntmps26
  go_wp2_with fail
  rw [← hN]
  clear hN
  generalize (w.alloc (.cells #[.int .i64 c.v, .string c.k, .int .i64 c.s] 64)) = w2 at *
  go_loopg [5] L.length (fun q s5 wx => ∃ i : Nat, s5 = .int .i64 (i : Int) ∧ Hid (i + q = L.length) ∧ Hid (¬ c ∈ L.take i) ∧ Hid (Fr w2 wx (fun _ => False)))
  case atStart => exact ⟨0, rfl, by show _ = _; omega, by show ¬ _; simp, Fr.refl _ _⟩
  case round =>
    obtain ⟨i, rfl, HG, HC, HF2⟩ := hrel
    cases gk with
    | zero =>
      have t1 : ¬ (i : Int) < (L.length : Int) := by have := HG.out; omega
      have hf : R = false := by
        rw [HR.out]
        have := HC.out
        rw [List.take_of_length_le (by have := HG.out; omega)] at this
        exact decide_eq_false this
      go_wp2_with fail
      go_ret
      exact ⟨rfl, HF.out.trans HF2.out⟩
    | succ q =>
      have hi : i < L.length := by have := HG.out; omega
      have t1 : (i : Int) < (L.length : Int) := by omega
      obtain ⟨g, o, rfl, c0, c1, c2⟩ := (HK.out.step (HF.out.trans HF2.out)).at hi
      have hgl : g < wr.heap.size := World.block_lt_of_cell? wr _ c0
      have hb := (HF2.out.block N (lt_of_block HB.out) (fun h => h)).trans HB.out
      obtain ⟨d0, d1, d2⟩ := cells3 hb
      have hbl := lt_of_block hb
      have HI := hid hi
      have hLi : L[i]?.getD default = L[i]'HI.out := by simp [hi]
      have HLI := hid hLi
      clear hb hLi hi
      generalize L[i]?.getD default = y at *
      have heq := fun W : World => eqC_run y c W
      by_cases hyc : y = c
      · have e : decide (y = c) = true := decide_eq_true hyc
        rw [e] at heq
        have HYC := hid hyc
        clear hyc e
        have hf : Hid (R = true) := by
          show _ = _
          rw [HR.out]
          refine decide_eq_true ?_
          rw [← HYC.out, HLI.out]
          exact List.getElem_mem _
        clear HYC
        go_wp2_with fail
        go_quiet (fail)
        go_wp2_with fail
        go_ret
        exact ⟨by first | rfl | (rw [hf.out]; rfl), (HF.out.trans HF2.out).drewN _⟩
      · have e : decide (y = c) = false := decide_eq_false hyc
        rw [e] at heq
        have HC2 : Hid (¬ c ∈ L.take (i + 1)) := by
          show ¬ _
          rw [List.take_add_one, List.mem_append]
          rintro (h | h)
          · exact HC.out h
          · rw [List.getElem?_eq_getElem HI.out] at h
            simp at h
            exact hyc (by rw [HLI.out, h])
        clear hyc e
        go_wp2_with fail
        go_quiet (fail)
        go_wp2_with fail
        go_roundg q
        case measure => omega
        case rel => exact ⟨i + 1, by go_num, by have := HG.out; show _ = _; omega, HC2, HF2.out.drewN _⟩

set_option maxHeartbeats 2000000 in
set_option maxRecDepth 100000 in
theorem rises_true {w : World} {v : Value} {L : List Cl} (h : Ks w v L) (hr : Ri L) : Calls Try.prog 24 #[v] w fun e w' => e = .returned (.bool true) ∧ Fr w w' (fun _ => False) := by
  have HK := hid h
  have HRI := hid hr
  obtain ⟨ao, cap, rfl, hl, _⟩ := id h
  clear h hr
  go_enter Try.func24, Try.ntmps24
  go_wp2_with fail
  go_loopg [3] L.length (fun q s3 wx => ∃ j : Nat, s3 = .int .i64 ((j + 1 : Nat) : Int) ∧ Hid (j + q = L.length) ∧ Hid (Fr w wx (fun _ => False)))
  case atStart => exact ⟨0, rfl, by show _ = _; omega, Fr.refl _ _⟩
  case round =>
    obtain ⟨j, rfl, HG, HF⟩ := hrel
    by_cases hj : j + 1 < L.length
    · cases gk with
      | zero => have := HG.out; omega
      | succ q =>
        have t1 : ((j + 1 : Nat) : Int) < (L.length : Int) := by omega
        have w1 : IntKind.i64.wrap (((j + 1 : Nat) : Int) - 1) = (j : Int) := by
          rw [show ((j + 1 : Nat) : Int) - 1 = (j : Int) by omega]
          exact wrap_fit (by unfold fits; omega)
        obtain ⟨g, o, rfl, a0, a1, a2⟩ := (HK.out.step HF.out).at (i := j) (by omega)
        have HCL : Hid (∀ W : World, Fr w W (fun _ => False) → Hid (Fr w W (fun _ => False)) ∧ (W.cell? ⟨g, o + j * 3, none⟩ = some (.int .i64 (L[j]?.getD default).v) ∧ W.cell? ⟨g, o + j * 3 + 1, none⟩ = some (.string (L[j]?.getD default).k) ∧ W.cell? ⟨g, o + j * 3 + 2, none⟩ = some (.int .i64 (L[j]?.getD default).s)) ∧ (W.cell? ⟨g, o + (j + 1) * 3, none⟩ = some (.int .i64 (L[j + 1]?.getD default).v) ∧ W.cell? ⟨g, o + (j + 1) * 3 + 1, none⟩ = some (.string (L[j + 1]?.getD default).k) ∧ W.cell? ⟨g, o + (j + 1) * 3 + 2, none⟩ = some (.int .i64 (L[j + 1]?.getD default).s)) ∧ g < W.heap.size) := fun W hW => by
          obtain ⟨g', o', e, h0, h1, h2⟩ := (HK.out.step hW).at (i := j) (by omega)
          simp only [Option.some.injEq, Addr.mk.injEq, and_true] at e
          obtain ⟨rfl, rfl⟩ := e
          obtain ⟨g', o', e, k0, k1, k2⟩ := (HK.out.step hW).at (i := j + 1) hj
          simp only [Option.some.injEq, Addr.mk.injEq, and_true] at e
          obtain ⟨rfl, rfl⟩ := e
          exact ⟨hW, ⟨h0, h1, h2⟩, ⟨k0, k1, k2⟩, World.block_lt_of_cell? W _ h0⟩
        have hc : cmpC (L[j]?.getD default) (L[j + 1]?.getD default) < 0 := by
          have e1 : L[j]?.getD default = L[j] := by simp [show j < L.length by omega]
          have e2 : L[j + 1]?.getD default = L[j + 1] := by simp [hj]
          rw [e1, e2]
          exact List.pairwise_iff_getElem.1 HRI.out j (j + 1) (by omega) hj (by omega)
        have HCC := hid (fun W : World => compareC_any (L[j]?.getD default) (L[j + 1]?.getD default) W)
        unfold vC at HCC
        have HJ := hid hj
        clear a0 a1 a2 hj
        generalize L[j]?.getD default = y at *
        generalize L[j + 1]?.getD default = z at *
        generalize cmpC y z = cc at *
        have t2 : decide (0 ≤ cc) = false := decide_eq_false (by omega)
        obtain ⟨jj, hjj⟩ : ∃ jj, jj = j + 1 := ⟨_, rfl⟩
        rw [← hjj] at HCL t1 w1 ⊢
        have t3 : (j : Int) < (L.length : Int) := by omega
        have HJJ := hid hjj
        clear hjj hc
        go_upto_region 4 with (fail)
        have HS := hid HF.out
        obtain ⟨_, _, _, hgl⟩ := HCL.out _ HF.out
        go_region_held3 (fun W' => Hid (Fr w W' (fun _ => False)) ∧ (W'.cell? ⟨g, o + j * 3, none⟩ = some (.int .i64 y.v) ∧ W'.cell? ⟨g, o + j * 3 + 1, none⟩ = some (.string y.k) ∧ W'.cell? ⟨g, o + j * 3 + 2, none⟩ = some (.int .i64 y.s)) ∧ (W'.cell? ⟨g, o + jj * 3, none⟩ = some (.int .i64 z.v) ∧ W'.cell? ⟨g, o + jj * 3 + 1, none⟩ = some (.string z.k) ∧ W'.cell? ⟨g, o + jj * 3 + 2, none⟩ = some (.int .i64 z.s)) ∧ g < W'.heap.size)
          ((refine HCL.out _ ?_; first | exact HS.out | exact HS.out.drew | exact HS.out.drew.drew))
          ((go_at_call 33; refine (HCC.out _).mono ?_; rintro e w9 ⟨rfl, hf9⟩; have HS9 := hid ((by first | exact HS.out | exact HS.out.drew : Fr w _ (fun _ => False)).trans hf9); clear hf9 HS; have HS := HS9; clear HS9))
        go_wp2_with fail
        go_roundg q
        case measure => omega
        case rel => exact ⟨jj, by go_num, by have := HG.out; have := HJJ.out; show _ = _; omega, by first | exact HS | exact hid HS.out.drew⟩
    · have t1 : ¬ ((j + 1 : Nat) : Int) < (L.length : Int) := by omega
      go_wp2_with fail
      go_ret
      exact ⟨rfl, HF.out⟩
/-- The mark under which a cell's window is closed. -/
def endM (c : Cl) : Int := if c.v = 0 then c.s + 10 else c.s + 25
theorem end_any (c : Cl) (w : World) (h0 : 0 ≤ c.s) (h1 : c.s ≤ 1000000) : Calls Try.prog 32 #[vC c] w fun e w' => e = .returned (.int .i64 (endM c)) ∧ Fr w w' (fun _ => False) := by
  have HB := heap_last w (.cells #[.int .i64 c.v, .string c.k, .int .i64 c.s] 64) _ rfl
  have HF := hid (alloc_fr w (.cells #[.int .i64 c.v, .string c.k, .int .i64 c.s] 64) (fun _ => False))
  obtain ⟨b0, b1, b2⟩ := cells3 HB
  have hbl := lt_of_block HB
  unfold vC endM
  by_cases hv : c.v = 0
  · have q : (c.v == 0) = true := by simp [hv]
    rw [if_pos hv]
    rw [hv] at b0 ⊢
    go_enter Try.func32, Try.ntmps32
    rw [hv] at HF
    go_wp2_with fail
    go_ret
    exact ⟨rfl, HF.out⟩
  · have q : (c.v == 0) = false := by simpa using hv
    rw [if_neg hv]
    go_enter Try.func32, Try.ntmps32
    go_wp2_with fail
    go_ret
    exact ⟨rfl, HF.out⟩
theorem within_o (a n : Int) (hn : 0 < n) (hb : n ≤ 1000000) (w : World) : Calls Try.prog 30 #[.int .i64 a, .int .i64 n] w fun e w' => e = .returned (.int .i64 (a % n)) ∧ w' = w := by
  have h1 : -n < a.tmod n := Int.lt_tmod_of_pos a hn
  have h2 : a.tmod n < n := Int.tmod_lt_of_pos a hn
  have h3 : ¬ n = 0 := by omega
  have h5 : (n == 0) = false := by simpa using h3
  have h6 : (n == -1) = false := by simp; omega
  have h7 : ¬ n = -1 := by omega
  have h4 : a % n = if a.tmod n < 0 then a.tmod n + n else a.tmod n := by
    have hq := Int.tmod_add_mul_tdiv a n
    generalize a.tmod n = m at *
    generalize a.tdiv n = q at *
    rw [← hq, Int.add_mul_emod_self_left]
    by_cases hm : m < 0
    · rw [if_pos hm, ← Int.add_emod_right]
      exact Int.emod_eq_of_lt (by omega) (by omega)
    · rw [if_neg hm]
      exact Int.emod_eq_of_lt (by omega) h2
  rw [h4]
  clear h4
  generalize hm : a.tmod n = m at *
  by_cases hlt : m < 0
  · rw [if_pos hlt]
    go_enter Try.func30, Try.ntmps30
    go_wp2_with fail
    go_ret
    exact ⟨rfl, rfl⟩
  · rw [if_neg hlt]
    go_enter Try.func30, Try.ntmps30
    go_wp2_with fail
    go_ret
    exact ⟨rfl, rfl⟩
end Go.Proofs.Ytglkjhpkeelajaa.V
