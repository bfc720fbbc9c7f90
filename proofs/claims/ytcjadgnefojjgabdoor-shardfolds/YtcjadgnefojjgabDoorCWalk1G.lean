/- chain: New, Len, Newest, check: walks. -/
import Derived.Test.YtcjadgnefojjgabDoorCBaseG
namespace Go.Proofs.YtcjadgnefojjgabDoor.G
open Go.RowKit

theorem new_any (w : World) :
    Calls Tryd.prog 34 #[] w fun e w' => e = .returned (.pointer (some ⟨w.heap.size, 0, none⟩)) ∧ (∀ base, Ch w' base w.heap.size (.slice none 0 0) []) ∧ Fr w w' (fun _ => False) ∧ w'.heap.size = w.heap.size + 1 := by
  go_enter Tryd.func34, Tryd.ntmps34
  go_wp2_with fail
  go_ret
  exact ⟨rfl, fun base => ⟨heap_last _ _ _ rfl, ⟨rfl, Or.inl ⟨rfl, rfl⟩⟩, Good.nil, by simp⟩, alloc_fr _ _ _, by simp⟩

theorem len_any {base B : Nat} {v : Value} {L : List Vn} (w : World) (h : Ch w base B v L) :
    Calls Tryd.prog 22 #[.pointer (some ⟨B, 0, none⟩)] w fun e w' => e = .returned (.int .i64 (L.length : Int)) ∧ w' = w := by
  have hc := cell_of_one h.cell
  obtain ⟨ao, cap, rfl, _⟩ := own_shape h.own
  have hlt := h.lt
  clear h
  go_enter Tryd.func22, Tryd.ntmps22
  go_wp2_with fail
  go_ret
  exact ⟨rfl, rfl⟩

theorem cells6 {w : World} {N : Nat} {a b c d f g : Value} {e : TypeId} (h : w.heap[N]? = some (.cells #[a, b, c, d, f, g] e (0, 0))) : w.cell? ⟨N, 0, none⟩ = some a ∧ w.cell? ⟨N, 1, none⟩ = some b ∧ w.cell? ⟨N, 2, none⟩ = some c ∧ w.cell? ⟨N, 3, none⟩ = some d ∧ w.cell? ⟨N, 4, none⟩ = some f ∧ w.cell? ⟨N, 5, none⟩ = some g := by
  refine ⟨?_, ?_, ?_, ?_, ?_, ?_⟩ <;> simp [World.cell?, h]

set_option maxHeartbeats 2000000 in
theorem cells4 {w : World} {N : Nat} {a b c d : Value} {e : TypeId} (h : w.heap[N]? = some (.cells #[a, b, c, d] e (0, 0))) : w.cell? ⟨N, 0, none⟩ = some a ∧ w.cell? ⟨N, 1, none⟩ = some b ∧ w.cell? ⟨N, 2, none⟩ = some c ∧ w.cell? ⟨N, 3, none⟩ = some d := by
  refine ⟨?_, ?_, ?_, ?_⟩ <;> simp [World.cell?, h]
theorem free4 {w : World} {N : Nat} {a b c d : Value} {e : TypeId} (h : w.heap[N]? = some (.cells #[a, b, c, d] e (0, 0))) (o : Nat) : w.frozen? ⟨N, o, none⟩ = false := by
  simp [World.frozen?, h]

set_option maxHeartbeats 1000000 in
theorem newest_any {base B : Nat} {v : Value} {L : List Vn} (w : World) (h : Ch w base B v L) :
    Calls Tryd.prog 35 #[.pointer (some ⟨B, 0, none⟩)] w fun e w' => e = .returned (.tuple #[.agg #[.int .i64 (nw L).v.c, .int .i64 (nw L).v.s, .int .i64 (nw L).v.m, .int .i64 (nw L).v.x], .int .i64 (nw L).e, .bool (nw L).t]) ∧ Fr w w' (fun _ => False) := by
  have hc := cell_of_one h.cell
  have HV := hid h.vs
  obtain ⟨ao, cap, rfl, _⟩ := own_shape h.own
  have hlt := h.lt
  clear h
  have HL := hid (fun W h => last_any (.slice ao L.length cap) L W h)
  unfold vA at HL
  generalize nw L = x at *
  go_enter Tryd.func35, Tryd.ntmps35
  go_wp2_with fail
  refine (HL.out _ (HV.out.fr (alloc_fr _ _ _))).mono ?_
  rintro e w1 ⟨rfl, hf1⟩
  have HZ := (hf1.block w.heap.size (by simp) (fun h => h)).trans (heap_last _ _ _ rfl)
  obtain ⟨z0, z1, z2, z3⟩ := cells4 HZ
  have hzf := free4 HZ
  have HF1 := hid ((alloc_fr w _ _).trans hf1)
  have hzl := lt_of_block HZ
  clear hf1 HZ
  go_wp2_with fail
  go_region
  go_wp2_with fail
  refine bodyPost_ret (v := .tuple #[.agg #[.int .i64 x.v.c, .int .i64 x.v.s, .int .i64 x.v.m, .int .i64 x.v.x], .int .i64 x.e, .bool x.t]) (by simp [results, Tryd.results35, go_sem, hzl, z0, z1, z2, z3]) rfl ⟨rfl, ?_⟩
  repeat (first | exact HF1.out | refine Fr.setCell ?_ (p := ⟨w.heap.size, _, none⟩) (fun h => absurd h (Nat.lt_irrefl _)) _ | apply Fr.alloc | apply Fr.drewN | apply Fr.drew)

/-- The stamp of a version, the epoch of a stamp, and whether it is a value. -/
theorem field_st (W : World) (a b c d f g : Value) : (Instr.field 87 (.agg #[a, b, c, d, f, g]) 0).run Tryd.prog W = .ok (.agg #[a, b]) W := by kernel_rfl
theorem field_ep (W : World) (a : Int) (b : Bool) : (Instr.field 85 (.agg #[.int .i64 a, .bool b]) 0).run Tryd.prog W = .ok (.int .i64 a) W := by kernel_rfl
theorem field_th (W : World) (a : Int) (b : Bool) : (Instr.field 85 (.agg #[.int .i64 a, .bool b]) 1).run Tryd.prog W = .ok (.bool b) W := by kernel_rfl

set_option maxRecDepth 100000 in
theorem check_any {base B : Nat} {v : Value} {L : List Vn} (e : Int) (w : World) (h : Ch w base B v L) :
    Calls Tryd.prog 37 #[.pointer (some ⟨B, 0, none⟩), .int .i64 e] w fun r w' => r = .returned (.int .i64 (wrong L e)) ∧ Fr w w' (fun _ => False) := by
  have hc := cell_of_one h.cell
  have HV := hid h.vs
  obtain ⟨ao, cap, rfl, _⟩ := own_shape h.own
  have hlt := h.lt
  clear h
  unfold wrong
  by_cases h1 : e < 1
  · rw [if_pos (Or.inl h1)]
    go_enter Tryd.func37, Tryd.ntmps37
    go_wp2_with fail
    go_ret
    exact ⟨rfl, Fr.refl _ _⟩
  · by_cases h2 : 1099511627776 < e
    · rw [if_pos (Or.inr h2)]
      go_enter Tryd.func37, Tryd.ntmps37
      go_wp2_with fail
      go_ret
      exact ⟨rfl, Fr.refl _ _⟩
    · rw [if_neg (by omega)]
      have HL := hid (fun W h => last_any (.slice ao L.length cap) L W h)
      unfold vA at HL
      generalize nw L = x at *
      have hfs := field_st
      have hfe := field_ep
      by_cases h3 : e < x.e
      · rw [if_pos h3]
        go_enter Tryd.func37, Tryd.ntmps37
        go_wp2_with fail
        refine (HL.out _ HV.out).mono ?_
        rintro r w1 ⟨rfl, hf1⟩
        have HF1 := hid hf1
        clear hf1
        go_wp2_with fail
        go_ret
        exact ⟨rfl, HF1.out⟩
      · rw [if_neg h3]
        go_enter Tryd.func37, Tryd.ntmps37
        go_wp2_with fail
        refine (HL.out _ HV.out).mono ?_
        rintro r w1 ⟨rfl, hf1⟩
        have HF1 := hid hf1
        clear hf1
        go_wp2_with fail
        go_ret
        exact ⟨rfl, HF1.out⟩
end Go.Proofs.YtcjadgnefojjgabDoor.G
