/- told: the walk. -/
import Derived.Test.YtobigmcklecbnaaRTold
namespace Go.Proofs.Ytobigmcklecbnaa
open Go.RowKit

theorem has_int {W : World} {B gr : Nat} {ge : Option Nat} {T : Tb} (h : TbAt W B gr ge T) {k : ByteArray} {v : Value} (hv : Has T k v) : ∃ x : Int, v = .int .i64 x := by
  rcases hv with ⟨i, hi, e⟩ | ⟨i, hi, e⟩
  · have := (h.rok i hi).1
    rw [e] at this
    exact this
  · have := (h.eok i hi).1
    rw [e] at this
    exact this
theorem dropV_int {W : World} {B gr : Nat} {ge : Option Nat} {T : Tb} (h : TbAt W B gr ge T) (hI : Inv T) (k : ByteArray) : ∃ x : Int, (dropV zI T k).1 = .int .i64 x := by
  obtain ⟨_, _, _, _, h5⟩ := drop_inv (z := zI) hI k
  rcases h5 with ⟨_, _, e⟩ | ⟨v, hv, _, e⟩
  · rw [e]; exact ⟨0, rfl⟩
  · rw [e]; exact has_int h hv

set_option maxHeartbeats 2000000 in
set_option maxRecDepth 100000 in
theorem told_any {w0 W : World} {B C : Nat} {T : Tb} (h : Pt w0 W B C T T) (s : Stp) (c : Nat) (hc : c ≤ 100000) (hz : Sz T c) (hk : s.key.size ≤ 9223372036854775807) :
    Calls Try.prog 20 #[.pointer (some ⟨B, 0, none⟩), .pointer (some ⟨C, 0, none⟩), .agg #[.int .i64 s.k, .int .i64 s.n, .string s.key]] W fun e w' => e = .returned (.bool true) ∧ Pt w0 w' B C (stepT T s) (stepT T s) := by
  obtain ⟨sk, sn, key⟩ := s
  dsimp only at hk ⊢
  have hlen := hz.len
  obtain ⟨D, hD⟩ : ∃ D, W.heap.size = D := ⟨_, rfl⟩
  obtain ⟨W1, hW1⟩ : ∃ W1, W.alloc (.cells #[.int .i64 sk, .int .i64 sn, .string key] 36) = W1 := ⟨_, rfl⟩
  have HF : Hid (Pu w0 W1 B C D ⟨sk, sn, key⟩ T T) := by
    show Pu _ _ _ _ _ _ _ _
    rw [← hW1, ← hD]
    exact ⟨h.step (alloc_fr W _ _), heap_last _ _ _ rfl⟩
  have hl2 : 2 * T.row.length ≤ 1099511627776 := by omega
  have HI := hid hz.inv
  obtain ⟨gr0, ge0, hr0, he0, ht0, _, _, _, _⟩ := h.ex
  obtain ⟨xd, hxd⟩ := dropV_int ht0 hz.inv key
  have HXd := hid hxd
  clear h ht0 hxd
  obtain ⟨d0, d1, d2, d3⟩ := HF.out.cells
  dsimp only at d0 d1 d2
  unfold stepT
  dsimp only
  by_cases k1 : sk = 1
  · subst k1
    rw [if_pos rfl]
    go_enter Try.func20, Try.ntmps20
    go_wp2_with fail
    clear HXd
    refine (uput HF.out HI.out hl2 key hk sn).mono ?_
    rintro e wn ⟨rfl, hP⟩
    have HF := hid hP
    clear hP
    clear d0 d1 d2 d3
    obtain ⟨d0, d1, d2, d3⟩ := HF.out.cells
    dsimp only at d0 d1 d2
    go_wp2_with fail
    refine (urput HF.out HI.out hl2 key hk sn).mono ?_
    rintro e wn ⟨rfl, hP⟩
    have HF := hid hP
    clear hP
    clear d0 d1 d2 d3
    obtain ⟨d0, d1, d2, d3⟩ := HF.out.cells
    dsimp only at d0 d1 d2
    go_wp2_with fail
    refine (usizes HF.out.pt).mono ?_
    rintro e wz ⟨rfl, hfz⟩
    have HF := hid (HF.out.step hfz)
    clear hfz d0 d1 d2 d3
    obtain ⟨d0, d1, d2, d3⟩ := HF.out.cells
    dsimp only at d0 d1 d2
    go_wp2_with fail
    refine (ulike HF.out.pt key hk).mono ?_
    rintro e wy ⟨rfl, hfy⟩
    have HF := hid (HF.out.step hfy)
    clear hfy
    go_wp2_with fail
    go_ret
    exact ⟨rfl, HF.out.pt⟩
  · rw [if_neg k1]
    by_cases k3 : sk = 3
    · subst k3
      rw [if_pos rfl]
      have hUD := HXd
      go_enter Try.func20, Try.ntmps20
      go_wp2_with fail
      refine (udrop HF.out HI.out key hk).mono ?_
      rintro e wn ⟨rfl, hP⟩
      have HF := hid hP
      clear hP
      rw [HXd.out]
      clear d0 d1 d2 d3
      obtain ⟨d0, d1, d2, d3⟩ := HF.out.cells
      dsimp only at d0 d1 d2
      go_wp2_with fail
      refine (urdrop HF.out HI.out key hk).mono ?_
      rintro e wn ⟨rfl, hP⟩
      have HF := hid hP
      clear hP
      rw [HXd.out]
      generalize (dropV zI T key).2 = bb at *
      clear d0 d1 d2 d3
      obtain ⟨d0, d1, d2, d3⟩ := HF.out.cells
      dsimp only at d0 d1 d2
      cases bb
      all_goals
        go_wp2_with fail
        refine (usizes HF.out.pt).mono ?_
        rintro e wz ⟨rfl, hfz⟩
        have HF := hid (HF.out.step hfz)
        clear hfz d0 d1 d2 d3
        obtain ⟨d0, d1, d2, d3⟩ := HF.out.cells
        dsimp only at d0 d1 d2
        go_wp2_with fail
        refine (ulike HF.out.pt key hk).mono ?_
        rintro e wy ⟨rfl, hfy⟩
        have HF := hid (HF.out.step hfy)
        clear hfy
        go_wp2_with fail
        go_ret
        exact ⟨rfl, HF.out.pt⟩
    · rw [if_neg k3]
      clear HXd
      by_cases k4 : sk = 4
      · subst k4
        rw [if_pos rfl]
        have HM1 := hid (fun (W : World) (R : Tb) (hW : Pu w0 W B C D ⟨4, sn, key⟩ T R) => umove hW sn)
        have HM2 := hid (fun (W : World) (U : Tb) (hW : Pu w0 W B C D ⟨4, sn, key⟩ U T) => urmove hW sn)
        have HK := hid (fun (W : World) (U R : Tb) (hW : Pu w0 W B C D ⟨4, sn, key⟩ U R) => hW.cells)
        generalize moveT zI T sn = M at *
        go_enter Try.func20, Try.ntmps20
        go_wp2_with fail
        clear hW1
        first
          | go_region_held3 (fun W' => W'.cell? ⟨D, 1, none⟩ = some (.int .i64 sn) ∧ D < W'.heap.size)
              ((exact ⟨(HK.out _ _ _ HF.out).2.1, (HK.out _ _ _ HF.out).2.2.2⟩))
              ((first
                | (go_at_call 35; refine (HM1.out _ _ (by repeat (first | exact HF.out | apply Pu.drewN | apply Pu.drew))).mono ?_; rintro e w4 ⟨rfl, hf4⟩; have HF := hid hf4; clear hf4)
                | (go_at_call 46; refine (HM2.out _ _ (by repeat (first | exact HF.out | apply Pu.drewN | apply Pu.drew))).mono ?_; rintro e w4 ⟨rfl, hf4⟩; have HF := hid hf4; clear hf4)))
          | fail
        all_goals
          clear d0 d1 d2 d3
          obtain ⟨d0, d1, d2, d3⟩ := HF.out.cells
          dsimp only at d0 d1 d2
          go_wp2_with fail
          refine (usizes HF.out.pt).mono ?_
          rintro e wz ⟨rfl, hfz⟩
          have HF := hid (HF.out.step hfz)
          clear hfz d0 d1 d2 d3
          obtain ⟨d0, d1, d2, d3⟩ := HF.out.cells
          dsimp only at d0 d1 d2
          go_wp2_with fail
          refine (ulike HF.out.pt key hk).mono ?_
          rintro e wy ⟨rfl, hfy⟩
          have HF := hid (HF.out.step hfy)
          clear hfy
          go_wp2_with fail
          go_ret
          exact ⟨rfl, HF.out.pt⟩
      · rw [if_neg k4]
        have t1 : (sk == 1) = false := by simpa using k1
        have t3 : (sk == 3) = false := by simpa using k3
        have t4 : (sk == 4) = false := by simpa using k4
        clear k1 k3 k4
        by_cases k5 : sk = 5
        · subst k5
          clear t1 t3 t4
          go_enter Try.func20, Try.ntmps20
          go_wp2_with fail
          refine (uall HF.out.pt).mono ?_
          rintro e wa ⟨rfl, hfa⟩
          have HF := hid (HF.out.step hfa)
          clear hfa d0 d1 d2 d3
          obtain ⟨d0, d1, d2, d3⟩ := HF.out.cells
          dsimp only at d0 d1 d2
          go_wp2_with fail
          refine (usizes HF.out.pt).mono ?_
          rintro e wz ⟨rfl, hfz⟩
          have HF := hid (HF.out.step hfz)
          clear hfz d0 d1 d2 d3
          obtain ⟨d0, d1, d2, d3⟩ := HF.out.cells
          dsimp only at d0 d1 d2
          go_wp2_with fail
          refine (ulike HF.out.pt key hk).mono ?_
          rintro e wy ⟨rfl, hfy⟩
          have HF := hid (HF.out.step hfy)
          clear hfy
          go_wp2_with fail
          go_ret
          exact ⟨rfl, HF.out.pt⟩
        · have t5 : (sk == 5) = false := by simpa using k5
          clear k5
          go_enter Try.func20, Try.ntmps20
          go_wp2_with fail
          refine (usizes HF.out.pt).mono ?_
          rintro e wz ⟨rfl, hfz⟩
          have HF := hid (HF.out.step hfz)
          clear hfz d0 d1 d2 d3
          obtain ⟨d0, d1, d2, d3⟩ := HF.out.cells
          dsimp only at d0 d1 d2
          go_wp2_with fail
          refine (ulike HF.out.pt key hk).mono ?_
          rintro e wy ⟨rfl, hfy⟩
          have HF := hid (HF.out.step hfy)
          clear hfy
          go_wp2_with fail
          go_ret
          exact ⟨rfl, HF.out.pt⟩
end Go.Proofs.Ytobigmcklecbnaa
