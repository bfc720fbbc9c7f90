/- chain: New, Len, Newest, check: walks. -/
import Derived.Test.YtcmniejffpoinabCBase
namespace Go.Proofs.Ytcmniejffpoinab
open Go.RowKit

theorem new_any (w : World) :
    Calls Try.prog 5 #[] w fun e w' => e = .returned (.pointer (some ⟨w.heap.size, 0, none⟩)) ∧ (∀ base, Ch w' base w.heap.size (.slice none 0 0) []) ∧ Fr w w' (fun _ => False) ∧ w'.heap.size = w.heap.size + 1 := by
  go_enter Try.func5, Try.ntmps5
  go_wp2_with fail
  go_ret
  exact ⟨rfl, fun base => ⟨heap_last _ _ _ rfl, ⟨rfl, Or.inl ⟨rfl, rfl⟩⟩, Good.nil, by simp⟩, alloc_fr _ _ _, by simp⟩

theorem len_any {base B : Nat} {v : Value} {L : List Vn} (w : World) (h : Ch w base B v L) :
    Calls Try.prog 14 #[.pointer (some ⟨B, 0, none⟩)] w fun e w' => e = .returned (.int .i64 (L.length : Int)) ∧ w' = w := by
  have hc := cell_of_one h.cell
  obtain ⟨ao, cap, rfl, _⟩ := own_shape h.own
  have hlt := h.lt
  clear h
  go_enter Try.func14, Try.ntmps14
  go_wp2_with fail
  go_ret
  exact ⟨rfl, rfl⟩

theorem cells3 {w : World} {N : Nat} {a b c : Value} {e : TypeId} (h : w.heap[N]? = some (.cells #[a, b, c] e (0, 0))) : w.cell? ⟨N, 0, none⟩ = some a ∧ w.cell? ⟨N, 1, none⟩ = some b ∧ w.cell? ⟨N, 2, none⟩ = some c := by
  refine ⟨?_, ?_, ?_⟩ <;> simp [World.cell?, h]

/-- The stamp of a version, the epoch of a stamp, and whether it is a value. -/
theorem field_st (W : World) (a b c : Value) : (Instr.field 48 (.agg #[a, b, c]) 0).run Try.prog W = .ok (.agg #[a, b]) W := by kernel_rfl
theorem field_ep (W : World) (a : Int) (b : Bool) : (Instr.field 46 (.agg #[.int .i64 a, .bool b]) 0).run Try.prog W = .ok (.int .i64 a) W := by kernel_rfl
theorem field_th (W : World) (a : Int) (b : Bool) : (Instr.field 46 (.agg #[.int .i64 a, .bool b]) 1).run Try.prog W = .ok (.bool b) W := by kernel_rfl

set_option maxRecDepth 100000 in
theorem check_any {base B : Nat} {v : Value} {L : List Vn} (e : Int) (w : World) (h : Ch w base B v L) :
    Calls Try.prog 15 #[.pointer (some ⟨B, 0, none⟩), .int .i64 e] w fun r w' => r = .returned (.int .i64 (wrong L e)) ∧ Fr w w' (fun _ => False) := by
  have hc := cell_of_one h.cell
  have HV := hid h.vs
  obtain ⟨ao, cap, rfl, _⟩ := own_shape h.own
  have hlt := h.lt
  clear h
  unfold wrong
  by_cases h1 : e < 1
  · rw [if_pos (Or.inl h1)]
    go_enter Try.func15, Try.ntmps15
    go_wp2_with fail
    go_ret
    exact ⟨rfl, Fr.refl _ _⟩
  · by_cases h2 : 1099511627776 < e
    · rw [if_pos (Or.inr h2)]
      go_enter Try.func15, Try.ntmps15
      go_wp2_with fail
      go_ret
      exact ⟨rfl, Fr.refl _ _⟩
    · rw [if_neg (by omega)]
      have HL := hid (fun W h => last_any (.slice ao L.length cap) L W h)
      unfold vA at HL
      generalize nw L = x at *
      have hfs := field_st
      have hfe := field_ep
      by_cases h3 : e < x.e
      · rw [if_pos h3]
        go_enter Try.func15, Try.ntmps15
        go_wp2_with fail
        refine (HL.out _ HV.out).mono ?_
        rintro r w1 ⟨rfl, hf1⟩
        have HF1 := hid hf1
        clear hf1
        go_wp2_with fail
        go_ret
        exact ⟨rfl, HF1.out⟩
      · rw [if_neg h3]
        go_enter Try.func15, Try.ntmps15
        go_wp2_with fail
        refine (HL.out _ HV.out).mono ?_
        rintro r w1 ⟨rfl, hf1⟩
        have HF1 := hid hf1
        clear hf1
        go_wp2_with fail
        go_ret
        exact ⟨rfl, HF1.out⟩
end Go.Proofs.Ytcmniejffpoinab
