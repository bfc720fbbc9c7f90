import Derived.Test.YtilgkfpicdmkkaaMKey
import Derived.Test.YtilgkfpicdmkkaaMCell
import Derived.Test.YtilgkfpicdmkkaaMListsI
/- spatelaw8: known: a walk. -/
namespace Go.Proofs.Ytilgkfpicdmkkaa.M
open Go.RowKit

/-- The lists that known asks for. -/
def kls : List (List Int) := [[1, 3, 3], [2, 3]]
theorem kls_told : I.ded (merged I.cmE kls) = [1, 2, 3] := by decide +kernel
def ksv (N : Nat) : Nat → I.Sv
  | 0 => ⟨N, 0, 3⟩
  | _ => ⟨N + 1, 0, 2⟩
theorem kls_at {w : World} {N : Nat} (h0 : w.heap[N]? = some (.cells #[.int .i64 1, .int .i64 3, .int .i64 3] 3 (0, 0))) (h1 : w.heap[N + 1]? = some (.cells #[.int .i64 2, .int .i64 3] 3 (0, 0))) (h2 : w.heap[N + 2]? = some (.cells #[.slice (some ⟨N, 0, none⟩) 3 3, .slice (some ⟨N + 1, 0, none⟩) 2 2] 36 (0, 0))) :
    I.LsAt w (ksv N) kls (.slice (some ⟨N + 2, 0, none⟩) 2 2) := by
  obtain ⟨a0, a1, a2⟩ := cells3 h0
  obtain ⟨b0, b1⟩ := cells2 h1
  obtain ⟨c0, c1⟩ := cells2 h2
  refine ⟨_, _, rfl, by decide, ?_, fun _ => ⟨N + 2, 0, rfl, ?_⟩⟩
  · intro p
    match p with
    | 0 =>
      refine ⟨show 3 ≤ 3 by decide, show 3 ≤ 9223372036854775807 by decide, fun j hj => ?_⟩
      have hj : j < 3 := hj
      match j, hj with
      | 0, _ => exact a0
      | 1, _ => exact a1
      | 2, _ => exact a2
    | 1 =>
      refine ⟨show 2 ≤ 2 by decide, show 2 ≤ 9223372036854775807 by decide, fun j hj => ?_⟩
      have hj : j < 2 := hj
      match j, hj with
      | 0, _ => exact b0
      | 1, _ => exact b1
    | p + 2 => exact ⟨by simp [I.gl, kls], by show 2 ≤ _; decide, fun j hj => by simp [I.gl, kls] at hj⟩
  · intro p hp
    have hp : p < 2 := hp
    match p, hp with
    | 0, _ => exact ⟨_, _, c0, fun _ => rfl⟩
    | 1, _ => exact ⟨_, _, c1, fun _ => rfl⟩

def ka : Cl := ⟨0, ⟨#[97]⟩, 0⟩
theorem ka_key : key ka = ⟨#[0, 97, 0, 1, 128, 0, 0, 0, 0, 0, 0, 0]⟩ ∧ mE ka = 0 := by
  constructor
  · unfold key
    rw [if_pos (by decide)]
    rfl
  · decide
theorem ka_cell : cell (nums8 ⟨#[0, 97, 0, 1, 128, 0, 0, 0, 0, 0, 0, 0]⟩) = (0, ka) := by
  have h := cell_txt ka_key.2
  have e : nums8 ⟨#[0, 97, 0, 1, 128, 0, 0, 0, 0, 0, 0, 0]⟩ = txt ka := by decide
  rw [e]
  exact h

set_option maxHeartbeats 1000000 in
set_option maxRecDepth 100000 in
theorem known_any (w : World) : Calls Try.prog 7 #[] w fun e w' => e = .returned (.bool true) ∧ Fr w w' (fun _ => False) := by
  have HK := hid (fun W => key_any ka W (by decide))
  have HC := hid (fun W => cell_any ⟨#[0, 97, 0, 1, 128, 0, 0, 0, 0, 0, 0, 0]⟩ W (by decide))
  rw [ka_key.1, ka_key.2] at HK
  rw [ka_cell] at HC
  unfold vC ka at HK HC
  dsimp only at HK HC
  go_enter Try.func7, Try.ntmps7
  go_wp2_with fail
  refine (HK.out _).mono ?_
  rintro e w1 ⟨rfl, hf1⟩
  have HF1 := hid hf1
  clear hf1
  go_wp2_with fail
  refine (HC.out _).mono ?_
  rintro e w2 ⟨rfl, hf2⟩
  have HF2 := hid (HF1.out.trans hf2)
  clear hf2 HF1
  go_wp2_with fail
  have h3 := heap_last (((w2.alloc (.cells #[.int .i64 0, .string ⟨#[97]⟩, .int .i64 0] 52)).alloc (.cells #[.int .i64 1, .int .i64 3, .int .i64 3] 3)).alloc (.cells #[.int .i64 2, .int .i64 3] 3)) (.cells #[.slice (some ⟨w2.heap.size + 1, 0, none⟩) 3 3, .slice (some ⟨w2.heap.size + 1 + 1, 0, none⟩) 2 2] 36) (w2.heap.size + 1 + 2) (by simp)
  have h2 : (((((w2.alloc (.cells #[.int .i64 0, .string ⟨#[97]⟩, .int .i64 0] 52)).alloc (.cells #[.int .i64 1, .int .i64 3, .int .i64 3] 3)).alloc (.cells #[.int .i64 2, .int .i64 3] 3)).alloc (.cells #[.slice (some ⟨w2.heap.size + 1, 0, none⟩) 3 3, .slice (some ⟨w2.heap.size + 1 + 1, 0, none⟩) 2 2] 36))).heap[w2.heap.size + 1 + 1]? = some (.cells #[.int .i64 2, .int .i64 3] 3 (0, 0)) := by
    rw [(alloc_fr _ _ (fun _ => False)).block _ (by simp) (fun h => h)]
    exact heap_last _ _ _ (by simp)
  have h1 : (((((w2.alloc (.cells #[.int .i64 0, .string ⟨#[97]⟩, .int .i64 0] 52)).alloc (.cells #[.int .i64 1, .int .i64 3, .int .i64 3] 3)).alloc (.cells #[.int .i64 2, .int .i64 3] 3)).alloc (.cells #[.slice (some ⟨w2.heap.size + 1, 0, none⟩) 3 3, .slice (some ⟨w2.heap.size + 1 + 1, 0, none⟩) 2 2] 36))).heap[w2.heap.size + 1]? = some (.cells #[.int .i64 1, .int .i64 3, .int .i64 3] 3 (0, 0)) := by
    rw [((alloc_fr _ _ (fun _ => False)).alloc _).block _ (by simp) (fun h => h)]
    exact heap_last _ _ _ (by simp)
  have h0 : (((((w2.alloc (.cells #[.int .i64 0, .string ⟨#[97]⟩, .int .i64 0] 52)).alloc (.cells #[.int .i64 1, .int .i64 3, .int .i64 3] 3)).alloc (.cells #[.int .i64 2, .int .i64 3] 3)).alloc (.cells #[.slice (some ⟨w2.heap.size + 1, 0, none⟩) 3 3, .slice (some ⟨w2.heap.size + 1 + 1, 0, none⟩) 2 2] 36))).heap[w2.heap.size]? = some (.cells #[.int .i64 0, .string ⟨#[97]⟩, .int .i64 0] 52 (0, 0)) := by
    rw [(((alloc_fr _ _ (fun _ => False)).alloc _).alloc _).block _ (by simp) (fun h => h)]
    exact heap_last _ _ _ rfl
  have HF3 := hid (HF2.out.trans ((((alloc_fr w2 (.cells #[.int .i64 0, .string ⟨#[97]⟩, .int .i64 0] 52) (fun _ => False)).alloc (.cells #[.int .i64 1, .int .i64 3, .int .i64 3] 3)).alloc (.cells #[.int .i64 2, .int .i64 3] 3)).alloc (.cells #[.slice (some ⟨w2.heap.size + 1, 0, none⟩) 3 3, .slice (some ⟨w2.heap.size + 1 + 1, 0, none⟩) 2 2] 36)))
  generalize ((((w2.alloc (.cells #[.int .i64 0, .string ⟨#[97]⟩, .int .i64 0] 52)).alloc (.cells #[.int .i64 1, .int .i64 3, .int .i64 3] 3)).alloc (.cells #[.int .i64 2, .int .i64 3] 3)).alloc (.cells #[.slice (some ⟨w2.heap.size + 1, 0, none⟩) 3 3, .slice (some ⟨w2.heap.size + 1 + 1, 0, none⟩) 2 2] 36)) = w3 at *
  have HL := hid (I.lists_any w3 (kls_at h1 h2 h3) (by decide))
  rw [kls_told] at HL
  refine HL.out.mono ?_
  rintro e w4 ⟨v, rfl, hE⟩
  obtain ⟨g, cap, rfl, hgl, hc⟩ := hE.cell (by simp)
  have l0 := hc 0 (by decide)
  have l1 := hc 1 (by decide)
  have l2 := hc 2 (by decide)
  simp only [List.getElem?_cons_zero, List.getElem?_cons_succ, Option.getD_some, I.eV] at l0 l1 l2
  obtain ⟨q0, q1, q2⟩ := cells3 ((hE.2.block _ (lt_of_block h0) (fun h => h)).trans h0)
  have ql := lt_of_block ((hE.2.block _ (lt_of_block h0) (fun h => h)).trans h0)
  have HF4 := hid (HF3.out.trans hE.2)
  clear hE hc h0 h1 h2 h3 HL HF3
  go_wp2_with fail
  go_ret
  exact ⟨rfl, HF4.out⟩
end Go.Proofs.Ytilgkfpicdmkkaa.M
