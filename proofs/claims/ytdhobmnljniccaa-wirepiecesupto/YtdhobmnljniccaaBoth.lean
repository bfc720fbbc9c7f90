/- Next, the program's and the document's, as one function of the bytes ahead. -/
import Derived.Test.YtdhobmnljniccaaRGood
namespace Go.Proofs.Ytdhobmnljniccaa
open Go.RowKit

/-- What Next tells of the bytes ahead: the body, whether there is one, the error, the rest, whether it is broken. -/
def nx (most : Nat) (B : List Nat) (bb : Bool) : List Nat × Bool × Int × List Nat × Bool :=
  if bb then ([], false, 14, B, true)
  else if B.length < 4 then ([], false, 0, B, false)
  else if headN B < 1 ∨ most < headN B then ([], false, 14, B, true)
  else if B.length < 4 + headN B then ([], false, 0, B, false)
  else ((B.drop 4).take (headN B), true, 0, B.drop (4 + headN B), false)

theorem nx_broken (most : Nat) (B : List Nat) : nx most B true = ([], false, 14, B, true) := by simp [nx]
theorem nx_short (most : Nat) (B : List Nat) (h : B.length < 4) : nx most B false = ([], false, 0, B, false) := by simp [nx, h]
theorem nx_bad (most : Nat) (B : List Nat) (h : ¬ B.length < 4) (h2 : headN B < 1 ∨ most < headN B) : nx most B false = ([], false, 14, B, true) := by
  rw [nx, if_neg (by simp), if_neg h, if_pos h2]
theorem nx_wait (most : Nat) (B : List Nat) (h : ¬ B.length < 4) (h2 : ¬ (headN B < 1 ∨ most < headN B)) (h3 : B.length < 4 + headN B) : nx most B false = ([], false, 0, B, false) := by
  rw [nx, if_neg (by simp), if_neg h, if_neg h2, if_pos h3]
theorem nx_good (most : Nat) (B : List Nat) (h : ¬ B.length < 4) (h2 : ¬ (headN B < 1 ∨ most < headN B)) (h3 : ¬ B.length < 4 + headN B) : nx most B false = ((B.drop 4).take (headN B), true, 0, B.drop (4 + headN B), false) := by
  rw [nx, if_neg (by simp), if_neg h, if_neg h2, if_neg h3]

def toldE (bv : Value) (r : List Nat × Bool × Int × List Nat × Bool) : Ending := .returned (.tuple #[bv, .bool r.2.1, .int .i64 r.2.2.1])

/-- The bytes ahead, of a Frames. -/
def Ahead (fed : List Nat) (told br : Nat) (B : List Nat) (bb : Bool) : Prop := (br = 0 ∧ bb = false ∧ fed.drop told = B) ∨ (0 < br ∧ bb = true ∧ br = B.length)

theorem Ahead.held {fed : List Nat} {told br : Nat} {B : List Nat} {bb : Bool} (h : Ahead fed told br B bb) : heldN fed told br = B.length := by
  rcases h with ⟨rfl, _, rfl⟩ | ⟨h, _, rfl⟩
  · simp [heldN]
  · simp [heldN, h]

def RNextPost (w : World) (base F : Nat) (v : Value) (most : Nat) (r : List Nat × Bool × Int × List Nat × Bool) (e : Ending) (w' : World) : Prop :=
  ∃ bv v', e = toldE bv r ∧ w'.ownsRow w.heap.size 5 1 bv r.1.length (by8 r.1) ∧ Rz w' base F v' most r.2.2.2.1 r.2.2.2.2 ∧ Fr w w' (fun k => k = F ∨ v.ownBlock = some k) ∧ v'.ownBlock = v.ownBlock

theorem rnext_any (base F : Nat) (v : Value) (most : Nat) (B : List Nat) (bb : Bool) (w : World) (h : Rz w base F v most B bb) (hb8 : ∀ j, B.getD j 0 < 256) :
    Calls Try.prog 25 #[.pointer (some ⟨F, 0, none⟩)] w fun e w' => RNextPost w base F v most (nx most B bb) e w' := by
  cases bb
  · by_cases h4 : B.length < 4
    · refine (rnext_short base F v most B w h h4).mono ?_
      rintro e w' ⟨rfl, rfl⟩
      rw [nx_short most B h4]
      exact ⟨_, v, rfl, World.ownsRow_nil _ _ _ _, h, Fr.refl _ _, rfl⟩
    · by_cases hbad : headN B < 1 ∨ most < headN B
      · refine (rnext_bad base F v most B w h hb8 (by omega) hbad).mono ?_
        rintro e w' ⟨rfl, hz, hf⟩
        rw [nx_bad most B h4 hbad]
        exact ⟨_, v, rfl, World.ownsRow_nil _ _ _ _, hz, hf.mono (fun _ _ h => Or.inl h), rfl⟩
      · by_cases hw : B.length < 4 + headN B
        · refine (rnext_wait base F v most B w h hb8 (by omega) (by omega) (by omega) hw).mono ?_
          rintro e w' ⟨rfl, n, rfl⟩
          rw [nx_wait most B h4 hbad hw]
          exact ⟨_, v, rfl, World.ownsRow_nil _ _ _ _, h.drewN n, (Fr.refl _ _).drewN n, rfl⟩
        · refine (rnext_good base F v most B w h hb8 (by omega) (by omega) (by omega) (by omega)).mono ?_
          rintro e w' ⟨bv, v', rfl, ho, hz, hf, hn⟩
          rw [nx_good most B h4 hbad hw]
          exact ⟨bv, v', rfl, ho, hz, hf.mono (fun _ _ h => Or.inl h), hn⟩
  · refine (rnext_broken base F v most B w h).mono ?_
    rintro e w' ⟨rfl, rfl⟩
    rw [nx_broken]
    exact ⟨_, v, rfl, World.ownsRow_nil _ _ _ _, h, Fr.refl _ _, rfl⟩

def XNextPost (w : World) (base F : Nat) (v : Value) (most L : Nat) (r : List Nat × Bool × Int × List Nat × Bool) (e : Ending) (w' : World) : Prop :=
  ∃ bv v' fed told br, e = toldE bv r ∧ w'.ownsRow w.heap.size 5 1 bv r.1.length (by8 r.1) ∧ Fz w' base F v' most fed told br ∧ Ahead fed told br r.2.2.2.1 r.2.2.2.2 ∧ Fr w w' (fun k => k = F ∨ v.ownBlock = some k) ∧ Nw w v v' ∧
    (∀ k, bv.ownBlock = some k → v'.ownBlock ≠ some k) ∧ fed.length ≤ L

theorem xnext_any (base F : Nat) (v : Value) (most : Nat) (fed : List Nat) (told br : Nat) (B : List Nat) (bb : Bool) (w : World) (h : Fz w base F v most fed told br) (hbase : base ≤ w.heap.size) (ha : Ahead fed told br B bb) :
    Calls Try.prog 21 #[.pointer (some ⟨F, 0, none⟩)] w fun e w' => XNextPost w base F v most fed.length (nx most B bb) e w' := by
  have hb8 := h.b8
  rcases ha with ⟨rfl, rfl, rfl⟩ | ⟨hbr, rfl, hB⟩
  · by_cases h4 : (fed.drop told).length < 4
    · refine (next_short base F v most fed told w h (by simpa using h4)).mono ?_
      rintro e w' ⟨rfl, n, rfl⟩
      rw [nx_short most _ h4]
      exact ⟨_, v, fed, told, 0, rfl, World.ownsRow_nil _ _ _ _, h.drewN n, Or.inl ⟨rfl, rfl, rfl⟩, (Fr.refl _ _).drewN n, Nw.refl _ _, fun k hk => by simp [Value.ownBlock] at hk, Nat.le_refl _⟩
    · have h4' : 4 ≤ fed.length - told := by simp at h4; omega
      by_cases hbad : headN (fed.drop told) < 1 ∨ most < headN (fed.drop told)
      · refine (next_bad base F v most fed told w h hb8 h4' hbad).mono ?_
        rintro e w' ⟨rfl, v', hz, hf, hn⟩
        rw [nx_bad most _ h4 hbad]
        exact ⟨_, v', [], 0, fed.length - told, rfl, World.ownsRow_nil _ _ _ _, hz, Or.inr ⟨by omega, rfl, by simp⟩, hf, hn, fun k hk => by simp [Value.ownBlock] at hk, by simp⟩
      · by_cases hw : (fed.drop told).length < 4 + headN (fed.drop told)
        · refine (next_wait base F v most fed told w h hb8 h4' (by omega) (by omega) (by simpa using hw)).mono ?_
          rintro e w' ⟨rfl, n, rfl⟩
          rw [nx_wait most _ h4 hbad hw]
          exact ⟨_, v, fed, told, 0, rfl, World.ownsRow_nil _ _ _ _, h.drewN n, Or.inl ⟨rfl, rfl, rfl⟩, (Fr.refl _ _).drewN n, Nw.refl _ _, fun k hk => by simp [Value.ownBlock] at hk, Nat.le_refl _⟩
        · refine (next_good base F v most fed told w h hbase hb8 h4' (by omega) (by omega) (by simpa using hw)).mono ?_
          rintro e w' ⟨bv, v', fed', told', rfl, ho, hz, hd, hf, hn, hbn, hl⟩
          rw [nx_good most _ h4 hbad hw]
          exact ⟨bv, v', fed', told', 0, rfl, ho, hz, Or.inl ⟨rfl, rfl, hd.trans (List.drop_drop (i := 4 + headN (fed.drop told)) (j := told) (l := fed)).symm⟩, hf, hn, hbn, hl⟩
  · refine (next_broken base F v most fed told br w h hbr).mono ?_
    rintro e w' ⟨rfl, rfl⟩
    rw [nx_broken]
    exact ⟨_, v, fed, told, br, rfl, World.ownsRow_nil _ _ _ _, h, Or.inr ⟨hbr, rfl, hB⟩, Fr.refl _ _, Nw.refl _ _, fun k hk => by simp [Value.ownBlock] at hk, Nat.le_refl _⟩

theorem nx_lt (most : Nat) (B : List Nat) (bb : Bool) (hb : ∀ j, B.getD j 0 < 256) : (∀ j, (nx most B bb).1.getD j 0 < 256) ∧ (∀ j, (nx most B bb).2.2.2.1.getD j 0 < 256) ∧ (nx most B bb).2.2.2.1.length ≤ B.length := by
  unfold nx
  split
  · exact ⟨by simp, hb, Nat.le_refl _⟩
  · split
    · exact ⟨by simp, hb, Nat.le_refl _⟩
    · split
      · exact ⟨by simp, hb, Nat.le_refl _⟩
      · split
        · exact ⟨by simp, hb, Nat.le_refl _⟩
        · exact ⟨getD_take_lt (getD_drop_lt hb 4) _, getD_drop_lt hb _, by simp⟩
end Go.Proofs.Ytdhobmnljniccaa
