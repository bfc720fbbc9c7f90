/- chain: upTo's closure, sort.Search over it, upTo: walks. -/
import Derived.Test.YtgbkihkefdoddaaGreatDoorJoin9
namespace Go.Proofs.YtgbkihkefdoddaaGreatDoor.G
open Go.RowKit

/-- What the closure holds: the chain's pointer at N0, an epoch at N1. -/
structure UC (W : World) (base B : Nat) (v : Value) (L : List Vn) (N0 N1 : Nat) (e : Int) : Prop where
  ch : Ch W base B v L
  p : W.heap[N0]? = some (.cells #[.pointer (some ⟨B, 0, none⟩)] 104 (0, 0))
  q : W.heap[N1]? = some (.cells #[.int .i64 e] 3 (0, 0))
theorem UC.fr {W W' : World} {base B : Nat} {v : Value} {L : List Vn} {N0 N1 : Nat} {e : Int} (h : UC W base B v L N0 N1 e) (hf : Fr W W' (fun _ => False)) : UC W' base B v L N0 N1 e :=
  ⟨h.ch.step hf, by rw [hf.block N0 (lt_of_block h.p) (fun h => h)]; exact h.p, by rw [hf.block N1 (lt_of_block h.q) (fun h => h)]; exact h.q⟩

set_option maxHeartbeats 2000000 in
theorem clo_any {base B : Nat} {v : Value} {L : List Vn} {N0 N1 : Nat} {e : Int} (i : Nat) (hi : i < L.length) (W : World) (h : UC W base B v L N0 N1 e) :
    Calls Tryz.prog 164 #[.int .i64 (i : Int), .pointer (some ⟨N0, 0, none⟩), .pointer (some ⟨N1, 0, none⟩)] W fun r W' => r = .returned (.bool (decide (e < (L.getD i z0).e))) ∧ Fr W W' (fun _ => False) := by
  have c0 := cell_of_one h.p
  have c1 := cell_of_one h.q
  have c2 := cell_of_one h.ch.cell
  obtain ⟨ao, cap, rfl, hcap, hl, hb⟩ := h.ch.vs
  obtain ⟨b, e1, hb2⟩ := hb (by rintro rfl; simp at hi)
  subst e1
  obtain ⟨c3, _, _⟩ := hb2 i hi
  have l0 := lt_of_block h.p
  have l1 := lt_of_block h.q
  have l2 := h.ch.lt
  have l3 := World.block_lt_of_cell? W _ c3
  dsimp only at l3
  have t1 : (i : Int) < (L.length : Int) := by omega
  have t0 : (0 : Int) ≤ (i : Int) := by omega
  generalize L.getD i z0 = x at *
  clear hb hb2 h hi
  go_enter Tryz.func164, Tryz.ntmps164
  go_wp2_with fail
  go_quiet (fail)
  go_wp2_with fail
  go_ret
  exact ⟨rfl, by repeat (first | exact Fr.refl _ _ | apply Fr.drewN | apply Fr.drew)⟩

theorem rise_get {L : List Vn} (hp : L.Pairwise (fun a b => a.e < b.e)) {k m : Nat} (hk : k < m) (hm : m < L.length) : (L.getD k z0).e < (L.getD m z0).e := by
  rw [List.pairwise_iff_getElem] at hp
  have := hp k m (by omega) hm hk
  simpa [List.getD, hm, show k < L.length by omega] using this

/-- The function value. -/
def upV (N0 N1 : Nat) : Value := .func (.func 164) #[] #[.pointer (some ⟨N0, 0, none⟩), .pointer (some ⟨N1, 0, none⟩)]

set_option maxHeartbeats 2000000 in
theorem search_any {base B : Nat} {v : Value} {L : List Vn} {N0 N1 : Nat} {e : Int} (w : World) (h : UC w base B v L N0 N1 e) :
    Calls Tryz.prog 163 #[.int .i64 (L.length : Int), upV N0 N1] w fun r w' => r = .returned (.int .i64 (up L e : Int)) ∧ Fr w w' (fun _ => False) := by
  have HU := hid h
  have hlen := h.ch.len
  clear h
  unfold upV
  go_enter Tryz.func163, Tryz.ntmps163
  go_wp2_with fail
  go_loopg [5, 6] L.length (fun g s5 s6 wx => ∃ i j : Nat, s5 = .int .i64 (i : Int) ∧ s6 = .int .i64 (j : Int) ∧ i + g = j ∧ j ≤ L.length ∧ Hid (∀ k, k < i → (L.getD k z0).e ≤ e) ∧ Hid (j < L.length → e < (L.getD j z0).e) ∧ Hid (Fr w wx (fun _ => False)))
  case atStart => exact ⟨0, L.length, rfl, rfl, by omega, Nat.le_refl _, fun j hj => absurd hj (Nat.not_lt_zero j), fun h => absurd h (Nat.lt_irrefl _), Fr.refl _ _⟩
  case round =>
    obtain ⟨i, j, rfl, rfl, hg, hj, HLo, HHi, HF⟩ := hrel
    cases gk with
    | zero =>
      have t1 : ¬ (i : Int) < (j : Int) := by omega
      have HE := hid (show j = i by omega)
      clear hg
      go_wp2_with fail
      go_ret
      refine ⟨?_, HF.out⟩
      have h1 := HE.out
      subst h1
      rw [up_eq HU.out.ch.good.2 e (k := j) hj HLo.out HHi.out]
      rfl
    | succ g =>
      have hij : i < j := by omega
      have t1 : (i : Int) < (j : Int) := by omega
      have HG := hid hg
      clear hg
      obtain ⟨m, hm, hm1, hm2⟩ : ∃ m : Nat, ((i : Int) + (j : Int)) / 2 = (m : Int) ∧ i ≤ m ∧ m < j := ⟨(i + j) / 2, by omega, by omega, by omega⟩
      have HM := hid hm
      have HM2 := hid hm2
      have HIJ := hid hij
      have HO := hid (clo_any (e := e) m (by omega) wr (HU.out.fr HF.out))
      clear hm hij
      cases hb : decide (e < (L.getD m z0).e) with
      | true =>
        rw [hb] at HO
        have HB := hid hb
        clear hb
        go_wp2_with fail
        rw [HM.out]
        refine HO.out.mono ?_
        rintro r w1 ⟨rfl, hf1⟩
        have HF1 := hid (HF.out.trans hf1)
        clear hf1
        go_wp2_with fail
        go_roundg (m - i)
        case measure => have := HG.out; omega
        case rel => exact ⟨i, m, rfl, rfl, by omega, by omega, HLo, fun _ => of_decide_eq_true HB.out, HF1⟩
      | false =>
        rw [hb] at HO
        have HB := hid hb
        clear hb
        go_wp2_with fail
        rw [HM.out]
        refine HO.out.mono ?_
        rintro r w1 ⟨rfl, hf1⟩
        have HF1 := hid (HF.out.trans hf1)
        clear hf1
        go_wp2_with fail
        go_roundg (j - (m + 1))
        case measure => have := HG.out; omega
        case rel =>
          refine ⟨m + 1, j, by go_num, rfl, by omega, by omega, fun k hk => ?_, HHi, HF1⟩
          have h1 : (L.getD m z0).e ≤ e := by have := of_decide_eq_false HB.out; omega
          rcases Nat.lt_or_ge k m with h2 | h2
          · have h3 : (L.getD k z0).e < (L.getD m z0).e := rise_get HU.out.ch.good.2 h2 (by omega)
            omega
          · rw [show k = m by omega]
            exact h1

theorem upTo_any {base B : Nat} {v : Value} {L : List Vn} (e : Int) (w : World) (h : Ch w base B v L) :
    Calls Tryz.prog 142 #[.pointer (some ⟨B, 0, none⟩), .int .i64 e] w fun r w' => r = .returned (.int .i64 (up L e : Int)) ∧ Fr w w' (fun _ => False) := by
  have hc := cell_of_one h.cell
  have hlt := h.lt
  have HCh := hid h
  obtain ⟨ao, cap, rfl, _⟩ := own_shape h.own
  clear h
  have HS := hid (fun (W : World) (N0 N1 : Nat) (hU : UC W base B (.slice ao L.length cap) L N0 N1 e) => search_any W hU)
  unfold upV at HS
  go_enter Tryz.func142, Tryz.ntmps142
  go_wp2_with fail
  refine (HS.out _ _ _ ⟨(HCh.out.step (alloc_fr _ _ _)).step (alloc_fr _ _ _), ?_, ?_⟩).mono ?_
  · exact (Below.heap_alloc _ _ _ (by simp)).trans (heap_last _ _ _ rfl)
  · exact heap_last _ _ _ (by simp)
  rintro r w1 ⟨rfl, hf1⟩
  have HF1 := hid ((alloc_fr w _ _).trans ((alloc_fr _ _ _).trans hf1))
  clear hf1
  go_wp2_with fail
  go_ret
  exact ⟨rfl, HF1.out⟩
end Go.Proofs.YtgbkihkefdoddaaGreatDoor.G
