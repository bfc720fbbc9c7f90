/- Scripts in memory; open, at, same: walks. -/
import Derived.Test.YtcmniejffpoinaaCDo
import Derived.Deep.DeepMust
namespace Go.Proofs.Ytcmniejffpoinaa
open Go.RowKit

def st0 : St := ⟨0, 0, 0, []⟩
/-- A chain behind a script. -/
def runL (ss : List St) : List Vn := (ss.take 2000).foldl stepL []
theorem run_snoc (ss : List St) (i : Nat) (hi : i < ss.length) : (ss.take (i + 1)).foldl stepL [] = stepL ((ss.take i).foldl stepL []) (ss.getD i st0) := by
  rw [List.take_add_one, List.foldl_append]
  simp [List.getD, hi]

/-- A script that can be read at a slice. -/
def Sc (w : World) (v : Value) (ss : List St) : Prop :=
  ∃ ao cap, v = .slice ao ss.length cap ∧ (ss ≠ [] → ∃ (b off : Nat), ao = some ⟨b, off, none⟩ ∧ ∀ i, i < ss.length → ∃ vl, w.cell? ⟨b, off + i * 4, none⟩ = some (.int .i64 (ss.getD i st0).k) ∧ w.cell? ⟨b, off + i * 4 + 1, none⟩ = some (.int .i64 (ss.getD i st0).a) ∧ w.cell? ⟨b, off + i * 4 + 2, none⟩ = some (.int .i64 (ss.getD i st0).b) ∧ w.cell? ⟨b, off + i * 4 + 3, none⟩ = some vl ∧ Is w vl (ss.getD i st0).l ∧ Cp vl ∧ fits (ss.getD i st0).b)
theorem Sc.fr {w w' : World} {v : Value} {ss : List St} (h : Sc w v ss) (hf : Fr w w' (fun _ => False)) : Sc w' v ss := by
  obtain ⟨ao, cap, rfl, hcell⟩ := h
  refine ⟨ao, cap, rfl, fun hne => ?_⟩
  obtain ⟨b, off, rfl, hc⟩ := hcell hne
  refine ⟨b, off, rfl, fun i hi => ?_⟩
  obtain ⟨vl, h0, h1, h2, h3, h4, h5, h6⟩ := hc i hi
  have hlt := World.block_lt_of_cell? w _ h0
  have hr := (fr_rules hf).1 b
  exact ⟨vl, by rw [hr _ hlt]; exact h0, by rw [hr _ hlt]; exact h1, by rw [hr _ hlt]; exact h2, by rw [hr _ hlt]; exact h3, h4.fr hf, h5, h6⟩

set_option maxHeartbeats 2000000 in
set_option maxRecDepth 100000 in
theorem open_any {v : Value} {ss : List St} (w : World) (h : Sc w v ss) :
    Calls Try.prog 15 #[v] w fun r w' => r = .returned (.pointer (some ⟨w.heap.size, 0, none⟩)) ∧ Fr w w' (fun _ => False) ∧ (runL ss).length ≤ 2000 ∧ ∃ u, Ch w' w.heap.size w.heap.size u (runL ss) := by
  have HS := hid h
  obtain ⟨ao, cap, rfl, _⟩ := h
  go_enter Try.func15, Try.ntmps15
  go_wp2_with fail
  refine (new_any _).mono ?_
  rintro r w1 ⟨rfl, hC, hf1, _⟩
  have HF1 := hid hf1
  have HC1 := hid (hC w.heap.size)
  clear hf1 hC
  go_wp2_with fail
  go_loopg [4] (min ss.length 2000) (fun g s4 wx => ∃ i : Nat, s4 = .int .i64 (i : Int) ∧ i + g = min ss.length 2000 ∧ Hid (Fr w wx (fun _ => False) ∧ ((ss.take i).foldl stepL []).length ≤ i ∧ ∃ u, Ch wx w.heap.size w.heap.size u ((ss.take i).foldl stepL [])))
  case atStart => exact ⟨0, rfl, by omega, HF1.out, by simp, _, by simpa using HC1.out⟩
  case round =>
    obtain ⟨i, rfl, hg, HX⟩ := hrel
    clear HF1 HC1
    cases gk with
    | zero =>
      have HE := hid (show (ss.take i).foldl stepL [] = runL ss from by
        unfold runL
        rcases Nat.lt_or_ge i ss.length with h | h
        · rw [show i = 2000 by omega]
        · rw [List.take_of_length_le h, List.take_of_length_le (by omega)])
      have hi2 : i ≤ 2000 := by omega
      rcases Nat.lt_or_ge i ss.length with h | h
      · have t1 : (i : Int) < (ss.length : Int) := by omega
        have t2 : ¬ (i : Int) < 2000 := by omega
        clear hg
        go_wp2_with fail
        go_ret
        have hx := HX.out
        rw [HE.out] at hx
        exact ⟨rfl, hx.1, by omega, hx.2.2⟩
      · have t1 : ¬ (i : Int) < (ss.length : Int) := by omega
        clear hg
        go_wp2_with fail
        go_ret
        have hx := HX.out
        rw [HE.out] at hx
        exact ⟨rfl, hx.1, by omega, hx.2.2⟩
    | succ g =>
      have hi : i < ss.length := by omega
      have t1 : (i : Int) < (ss.length : Int) := by omega
      have t2 : (i : Int) < 2000 := by omega
      have HG := hid hg
      clear hg
      obtain ⟨ao', cap', e1, hcell⟩ := HS.out.fr HX.out.1
      simp only [Value.slice.injEq] at e1
      obtain ⟨rfl, _, rfl⟩ := e1
      obtain ⟨b, off, e2, hck⟩ := hcell (by rintro rfl; simp at hi)
      subst e2
      obtain ⟨vl, c0, c1, c2, c3, hI, hcp, hfb⟩ := hck i hi
      have hbl := World.block_lt_of_cell? wr _ c0
      dsimp only at hbl
      have HSn := hid (run_snoc ss i hi)
      obtain ⟨ai, ci, rfl, hI2⟩ := id hI
      obtain ⟨hxF, hxl, u, hxC⟩ := HX.out
      have HD := hid (do_any (ss.getD i st0) wr hxC hI hcp hfb (by omega) hxF.size)
      have hle := stepL_le ((ss.take i).foldl stepL []) (ss.getD i st0)
      have HNext := hid (fun (W : World) (u' : Value) (hc : Ch W w.heap.size w.heap.size u' (stepL ((ss.take i).foldl stepL []) (ss.getD i st0))) (hf : Fr wr W (fun k => k = w.heap.size ∨ u.ownBlock = some k)) =>
        (show Fr w W (fun _ => False) ∧ ((ss.take (i + 1)).foldl stepL []).length ≤ i + 1 ∧ ∃ u', Ch W w.heap.size w.heap.size u' ((ss.take (i + 1)).foldl stepL []) from by
          rw [HSn.out]
          exact ⟨hxC.frOwn hxF hf (Nat.le_refl _) (Nat.le_refl _), by omega, u', hc⟩))
      clear hck hcell hI hI2 hcp hfb hi hxF hxl hxC hle HSn HX
      generalize ss.getD i st0 = s at *
      generalize (ss.take i).foldl stepL [] = L at *
      go_wp2_with fail
      refine HD.out.mono ?_
      rintro r w2 ⟨rfl, u', h2, hf2, _⟩
      have HN2 := hid (HNext.out w2 u' h2 hf2)
      clear h2 hf2
      go_wp2_with fail
      go_roundg g
      case measure => omega
      case rel => exact ⟨i + 1, by go_num, by have := HG.out; omega, HN2⟩
end Go.Proofs.Ytcmniejffpoinaa
