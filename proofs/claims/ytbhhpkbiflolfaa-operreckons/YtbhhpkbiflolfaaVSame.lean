/- The laws' SameCells. -/
import Derived.Test.YtbhhpkbiflolfaaVMark3
namespace Go.Proofs.Ytbhhpkbiflolfaa.V
open Go.RowKit Go.Maps
open M (Cl cmpC vC)

theorem Ks.step {w w' : World} {v : Value} {cs : List Cl} (h : Ks w v cs) (hf : Fr w w' (fun _ => False)) : Ks w' v cs := h.fr hf (fun _ _ _ _ _ _ h => h)
set_option maxHeartbeats 1000000 in
theorem ksame_true {w : World} {u1 u2 : Value} {L : List Cl} (h1 : Ks w u1 L) (h2 : Ks w u2 L) : Calls Try.prog 15 #[u1, u2] w fun e w' => e = .returned (.bool true) ∧ Fr w w' (fun _ => False) := by
  have H1 := hid h1
  have H2 := hid h2
  obtain ⟨ao, cap, rfl, hl, _⟩ := id h1
  obtain ⟨bo, cap2, rfl, _, _⟩ := id h2
  clear h1 h2
  go_enter Try.func15, Try.ntmps15
  go_wp2_with fail
  go_loopg [5] L.length (fun n s5 wx => ∃ i : Nat, s5 = .int .i64 (i : Int) ∧ Hid (i + n = L.length) ∧ Hid (Fr w wx (fun _ => False)))
  case atStart => exact ⟨0, rfl, by show _ = _; omega, Fr.refl _ _⟩
  case round =>
    obtain ⟨i, rfl, HG, HF⟩ := hrel
    cases gk with
    | zero =>
      have t1 : ¬ (i : Int) < (L.length : Int) := by have := HG.out; omega
      go_wp2_with fail
      go_ret
      exact ⟨rfl, HF.out⟩
    | succ n =>
      have hi : i < L.length := by have := HG.out; omega
      have t1 : (i : Int) < (L.length : Int) := by omega
      obtain ⟨g1, o1, rfl, a0, a1, a2⟩ := (H1.out.step HF.out).at hi
      obtain ⟨g2, o2, rfl, b0, b1, b2⟩ := (H2.out.step HF.out).at hi
      have l1 : g1 < wr.heap.size := World.block_lt_of_cell? wr _ a0
      have l2 : g2 < wr.heap.size := World.block_lt_of_cell? wr _ b0
      have HI := hid hi
      clear hi
      generalize (L[i]?.getD default).v = cv0 at *
      generalize (L[i]?.getD default).k = ck0 at *
      generalize (L[i]?.getD default).s = cs0 at *
      go_wp2_with fail
      go_quiet (fail)
      go_wp2_with fail
      go_roundg n
      case measure => omega
      case rel => exact ⟨i + 1, by go_num, by have := HG.out; show _ = _; omega, HF.out.drewN _⟩
theorem Kw.ks {b : Nat} {w : World} {u : Value} {L : List Cl} (h : Kw b w u L) (hl : L.length ≤ 9223372036854775807) : Ks w u L := by
  rcases h.row with ⟨rfl, rfl⟩ | ⟨g, cap, rest, rfl, h1, h2, h3, hrow, h5⟩
  · exact ⟨none, 0, rfl, by simp, fun h => absurd rfl h⟩
  · exact ⟨_, _, rfl, hl, fun _ => ⟨g, 0, rfl, fun i hi => by simpa using hrow.get hi⟩⟩
theorem Kw.shape {b : Nat} {w : World} {u : Value} {L : List Cl} (h : Kw b w u L) : ∃ ao cap, u = .slice ao L.length cap := own_nil_shape h

/-- Chapter 14's first example. -/
def vsE : List Vw := [⟨10, 10, 0⟩, ⟨10, 5, 3⟩]
def kE : ByteArray := ⟨#[107]⟩
def liE : List Cl := [⟨0, kE, 10⟩, ⟨1, kE, 5⟩, ⟨1, kE, 10⟩]
theorem exE : rightVs vsE = true ∧ takeE vsE kE 12 = 0 ∧ takeB vsE noM kE 12 = false ∧ riseR [noM] 0 15 = (true, 0) ∧ riseS [noM] 0 15 = [15] ∧ riseR [15] 0 18 = (true, 0) ∧ riseS [15] 0 18 = [18] ∧ leastL [noM] = noM ∧ leastL [15] = 15 ∧ leastL [18] = 18 := by decide
theorem exE2 : takeL vsE noM kE 12 = liE := by decide
theorem exE3 : chkAll vsE noM liE = 0 ∧ insAll liE [] = liE ∧ goneL vsE 15 liE = [] ∧ leftL vsE 15 liE = liE ∧ goneL vsE 18 liE = [⟨1, kE, 5⟩] := by decide
end Go.Proofs.Ytbhhpkbiflolfaa.V
