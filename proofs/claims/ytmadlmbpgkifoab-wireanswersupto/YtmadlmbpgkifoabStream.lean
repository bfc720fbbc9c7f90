/- Frames behind one another, of which a part was fed: what Next tells. -/
import Derived.Test.YtmadlmbpgkifoabFnew
namespace Go.Proofs.Ytmadlmbpgkifoab
open Go.RowKit

theorem take_pre {P R S : List Nat} (h : P ++ R = S) (n : Nat) (hn : n ≤ P.length) : P.take n = S.take n := by
  rw [← h, List.take_append_of_le_length hn]
theorem headN_pre {P R b rest : List Nat} (h : P ++ R = frameB b ++ rest) (h4 : 4 ≤ P.length) (hb : b.length < 4294967296) : headN P = b.length := by
  rw [headN, take_pre h 4 h4]
  exact headN_frame b rest hb
theorem body_pre {P R b rest : List Nat} (h : P ++ R = frameB b ++ rest) (hl : 4 + b.length ≤ P.length) : (P.drop 4).take b.length = b ∧ P.drop (4 + b.length) ++ R = rest := by
  constructor
  · have e : (P.drop 4).take b.length = ((P ++ R).drop 4).take b.length := by
      rw [List.drop_append_of_le_length (by omega), List.take_append_of_le_length (by simp; omega)]
    rw [e, h]
    exact body_frame b rest
  · have e : P.drop (4 + b.length) ++ R = (P ++ R).drop (4 + b.length) := by rw [List.drop_append_of_le_length hl]
    rw [e, h]
    exact rest_frame b rest

/-- No whole frame is there yet. -/
theorem next_no (base F : Nat) (v : Value) (most : Nat) (fed : List Nat) (told : Nat) (w : World) (h : Fz w base F v most fed told 0) (hb8 : ∀ j, fed.getD j 0 < 256) (R b rest : List Nat) (hs : fed.drop told ++ R = frameB b ++ rest) (h1 : 1 ≤ b.length) (h2 : b.length ≤ most) (h3 : b.length < 4294967296) (hlt : (fed.drop told).length < 4 + b.length) :
    Calls Try.prog 27 #[.pointer (some ⟨F, 0, none⟩)] w fun e w' => e = noFrame 0 ∧ ∃ n, w' = w.drewN n := by
  rw [List.length_drop] at hlt
  by_cases h4 : fed.length - told < 4
  · exact next_short base F v most fed told w h h4
  · have hh := headN_pre hs (by rw [List.length_drop]; omega) h3
    exact next_wait base F v most fed told w h hb8 (by omega) (by omega) (by omega) (by omega)

/-- Nothing is there at all. -/
theorem next_none (base F : Nat) (v : Value) (most : Nat) (fed : List Nat) (told : Nat) (w : World) (h : Fz w base F v most fed told 0) (hs : fed.drop told = []) :
    Calls Try.prog 27 #[.pointer (some ⟨F, 0, none⟩)] w fun e w' => e = noFrame 0 ∧ ∃ n, w' = w.drewN n := by
  have := congrArg List.length hs
  simp at this
  exact next_short base F v most fed told w h (by omega)

/-- A whole frame is there. -/
theorem next_yes (base F : Nat) (v : Value) (most : Nat) (fed : List Nat) (told : Nat) (w : World) (h : Fz w base F v most fed told 0) (hbase : base ≤ w.heap.size) (hb8 : ∀ j, fed.getD j 0 < 256) (R b rest : List Nat) (hs : fed.drop told ++ R = frameB b ++ rest) (h1 : 1 ≤ b.length) (h2 : b.length ≤ most) (h3 : b.length < 4294967296) (hle : 4 + b.length ≤ (fed.drop told).length) :
    Calls Try.prog 27 #[.pointer (some ⟨F, 0, none⟩)] w fun e w' => ∃ P', P' ++ R = rest ∧ GoodPost w base F v most fed.length b P' e w' := by
  have hl := hle
  rw [List.length_drop] at hl
  have hh := headN_pre hs (by omega) h3
  have hbp := body_pre hs hle
  refine (next_good base F v most fed told w h hbase hb8 (by omega) (by omega) (by omega) (by omega)).mono ?_
  intro e w' hg
  rw [hh, hbp.1] at hg
  refine ⟨fed.drop (told + (4 + b.length)), ?_, hg⟩
  rw [← hbp.2, List.drop_drop]
end Go.Proofs.Ytmadlmbpgkifoab
