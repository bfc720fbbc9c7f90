/- The document's Held, loose: walks. -/
import Derived.Test.YtekooeekaigmaaaEP2
namespace Go.Proofs.Ytekooeekaigmaaa.E
open Go.RowKit Go.Maps Go.MuLone

set_option maxHeartbeats 2000000 in
set_option maxRecDepth 100000 in
theorem rheld_any {w : World} {C S I base : Nat} {sv : Nat → Value} {vD vW : Value} {b : Bo} {die : List Int} (h : Rb w C S I base sv vD vW b die) (hw : Wf b) :
    Calls Try.prog 47 #[.pointer (some ⟨C, 0, none⟩)] w fun e w' => ∃ v, e = .returned v ∧ OwI w' w.heap.size v (heldL b) ∧ Fr w w' (fun _ => False) := by
  have H := hid h
  have HW := hid hw
  clear h hw
  go_enter Try.func47, Try.ntmps47
  go_wp2_with fail
  go_loopg [3, 4] 64 (fun g s3 s4 wx => ∃ k : Nat, s4 = .int .i64 ((k : Int) + 1) ∧ k + g = 64 ∧ Hid (OwI wx w.heap.size s3 (hF b (k + 1))) ∧ Hid (Fr w wx (fun _ => False)))
  case atStart =>
    refine ⟨0, rfl, rfl, ?_, Fr.refl _ _⟩
    have : hF b (0 + 1) = [] := by
      show (lst b 0).foldl insF [] = []
      unfold lst
      rw [H.out.z.1, H.out.z.2]
      rfl
    rw [this]
    exact World.ownsRow_nil _ _ _ _
  case round =>
    obtain ⟨k, rfl, hg, HO, HF⟩ := hrel
    cases gk with
    | zero =>
      have t1 : ¬ (k : Int) + 1 ≤ 64 := by omega
      have HK := hid (show k = 64 by omega)
      clear hg
      go_wp2_with fail
      go_ret
      refine ⟨_, rfl, ?_, HF.out⟩
      have h := HO.out
      rw [HK.out] at h
      rw [← hF_held]
      exact h
    | succ g =>
      have t1 : (k : Int) + 1 ≤ 64 := by omega
      have HG := hid hg
      have hk : k + 1 < 65 := by omega
      obtain ⟨a1, c1, e1, m1, g1⟩ := (H.out.so (k + 1) hk).at
      have HSV := hid e1
      have HG1 := hid g1
      have hfew := HW.out.few (k + 1) hk
      have hpin := HW.out.pins
      have hln : (b.sets (k + 1)).length ≤ 64 := by omega
      have hl0 := len_hF HW.out (k + 1) (by omega)
      have HL0 := hid (show (hF b (k + 1)).length ≤ 4300 by omega)
      have HKK := hid hk
      clear hg e1 g1 hfew hpin hl0 hk m1
      go_wp2_with fail
      go_loopg [5, 3] (b.sets (k + 1)).length (fun g2 s5 s3 wx => ∃ i : Nat, s5 = .int .i64 (i : Int) ∧ i + g2 = (b.sets (k + 1)).length ∧ Hid (OwI wx w.heap.size s3 (((b.sets (k + 1)).take i).foldl insF (hF b (k + 1)))) ∧ Hid (Fr w wx (fun _ => False)))
      case atStart => exact ⟨0, rfl, by omega, HO, HF⟩
      case round =>
        clear HO HF
        obtain ⟨i, rfl, hg2, HO, HF⟩ := hrel
        have HR := hid (H.out.step HF.out)
        obtain ⟨_, _, x2, x3, _, _, _⟩ := HR.out.cells
        have xs := HR.out.s HKK.out
        rw [HSV.out] at xs
        have xi := HR.out.i HKK.out
        have lC := lt_of_block HR.out.cell
        have lS := lt_of_block HR.out.sc
        have lI := lt_of_block HR.out.ic
        cases gk with
        | zero =>
          have t2 : ¬ (i : Int) < ((b.sets (k + 1)).length : Int) := by omega
          have HO : Hid (OwI wr w.heap.size u3 ((b.sets (k + 1)).foldl insF (hF b (k + 1)))) := by
            have h := HO.out
            rw [show i = (b.sets (k + 1)).length by omega, List.take_length] at h
            exact h
          have hle := len_insF (b.sets (k + 1)) (hF b (k + 1))
          have HLE := hid (show ((b.sets (k + 1)).foldl insF (hF b (k + 1))).length ≤ 4398046511000 by have := HL0.out; omega)
          clear hg2 hle
          by_cases hz : b.inn (k + 1) = 0
          · have HE := hid (show hF b (k + 1 + 1) = (b.sets (k + 1)).foldl insF (hF b (k + 1)) by
              show (lst b (k + 1)).foldl insF (hF b (k + 1)) = _
              unfold lst
              rw [if_pos hz, List.append_nil])
            rw [hz] at xi
            go_wp2_with fail
            go_roundg g
            case rel => exact ⟨k + 1, by simp, by have := HG.out; omega, by rw [HE.out]; exact HO, HF⟩
            case measure => omega
          · have HE := hid (show hF b (k + 1 + 1) = ins (b.inn (k + 1)) ((b.sets (k + 1)).foldl insF (hF b (k + 1))) by
              show (lst b (k + 1)).foldl insF (hF b (k + 1)) = _
              unfold lst
              rw [if_neg hz, List.foldl_append]
              rfl)
            have d1 : (b.inn (k + 1) != 0) = true := by simp [hz]
            go_wp2_with fail
            refine (With_any HO.out HLE.out _).mono ?_
            rintro e w2 ⟨v2, rfl, ho, hf⟩
            have HO2 := hid (ho.mono HF.out.size)
            have HF2 := hid (HF.out.trans hf)
            clear ho hf
            go_wp2_with fail
            go_roundg g
            case rel => exact ⟨k + 1, by simp, by have := HG.out; omega, by rw [HE.out]; exact HO2, HF2⟩
            case measure => omega
        | succ g2 =>
          have hi : i < (b.sets (k + 1)).length := by omega
          have t2 : (i : Int) < ((b.sets (k + 1)).length : Int) := by omega
          obtain ⟨g9, rfl, hc⟩ := HG1.out (by intro e; rw [e] at hi; simp at hi)
          have c0 := hc i hi
          have hbw := HF.out.below (Nat.le_refl _) (fun _ h => h.elim)
          have cx : wr.cell? ⟨g9, i, none⟩ = some (.int .i64 ((b.sets (k + 1)).getD i 0)) := (hbw.cell (p := ⟨g9, i, none⟩) (World.block_lt_of_cell? w _ c0)).trans c0
          have bx := World.block_lt_of_cell? wr _ cx
          dsimp only at bx
          have hle := len_insF ((b.sets (k + 1)).take i) (hF b (k + 1))
          have HLE := hid (show (((b.sets (k + 1)).take i).foldl insF (hF b (k + 1))).length ≤ 4398046511000 by
            have := HL0.out
            have h2 : ((b.sets (k + 1)).take i).length ≤ (b.sets (k + 1)).length := by simp; omega
            omega)
          have HE := hid (show ((b.sets (k + 1)).take (i + 1)).foldl insF (hF b (k + 1)) = ins ((b.sets (k + 1)).getD i 0) (((b.sets (k + 1)).take i).foldl insF (hF b (k + 1))) by
            rw [List.take_add_one, List.foldl_append, List.getElem?_eq_getElem hi]
            simp [List.getD, hi, insF])
          have HG2 := hid hg2
          clear hg2 hle hc c0 hbw
          generalize (b.sets (k + 1)).getD i 0 = x at *
          go_wp2_with fail
          refine (With_any HO.out HLE.out _).mono ?_
          rintro e w2 ⟨v2, rfl, ho, hf⟩
          have HO2 := hid (ho.mono HF.out.size)
          have HF2 := hid (HF.out.trans hf)
          clear ho hf
          go_wp2_with fail
          go_roundg g2
          case rel => exact ⟨i + 1, by simp, by have := HG2.out; omega, by rw [HE.out]; exact HO2, HF2⟩
          case measure => omega
end Go.Proofs.Ytekooeekaigmaaa.E
