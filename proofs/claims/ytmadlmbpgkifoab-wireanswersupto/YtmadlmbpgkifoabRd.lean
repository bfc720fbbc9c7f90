/- The Reader's calls: walks. -/
import Derived.Test.YtmadlmbpgkifoabWmore
import Derived.Deep.QuietTactic
import Derived.BigQuiet
namespace Go.Proofs.Ytmadlmbpgkifoab
open Go.RowKit

/-- A Reader at block R: its bytes, its place, its fault (0: none) and that one's place. -/
structure Rd (w : World) (base R : Nat) (v : Value) (xs : List Nat) (p : Nat) (en on : Int) : Prop where
  cell : w.heap[R]? = some (.cells #[v, .int .i64 (p : Int), .int .i64 en, .int .i64 on] 75 (0, 0))
  own : w.ownsRow base 5 1 v xs.length (by8 xs)

theorem four_cells {w : World} {b : Nat} {v0 v1 v2 v3 : Value} {t : TypeId} (h : w.heap[b]? = some (.cells #[v0, v1, v2, v3] t (0, 0))) :
    w.cell? ⟨b, 0, none⟩ = some v0 ∧ w.cell? ⟨b, 1, none⟩ = some v1 ∧ w.cell? ⟨b, 2, none⟩ = some v2 ∧ w.cell? ⟨b, 3, none⟩ = some v3 := by simp [World.cell?, h]
theorem free_of {w : World} {b : Nat} {cs : Array Value} {t : TypeId} (h : w.heap[b]? = some (.cells cs t (0, 0))) (o : Nat) : w.frozen? ⟨b, o, none⟩ = false := by simp [World.frozen?, h]

theorem failed_any (base R : Nat) (v : Value) (xs : List Nat) (p : Nat) (en on : Int) (w : World) (h : Rd w base R v xs p en on) :
    Calls Try.prog 40 #[.pointer (some ⟨R, 0, none⟩)] w fun e w' => e = .returned (.bool (en != 0)) ∧ w' = w := by
  obtain ⟨c0, c1, c2, c3⟩ := four_cells h.cell
  clear h c0 c1 c3
  go_enter Try.func40, Try.ntmps40
  go_wp2
  go_ret
  exact ⟨rfl, rfl⟩

/-- The cells behind a store of a fault. -/
theorem two_stored {w : World} {b : Nat} {v0 v1 v2 v3 x2 x3 : Value} {t : TypeId} (h : w.heap[b]? = some (.cells #[v0, v1, v2, v3] t (0, 0))) :
    ((w.setCell ⟨b, 2, none⟩ x2).setCell ⟨b, 3, none⟩ x3).heap[b]? = some (.cells #[v0, v1, x2, x3] t (0, 0)) := by
  have h1 := heap_setCell_same w b 2 #[v0, v1, v2, v3] t x2 h
  have h2 := heap_setCell_same _ b 3 _ t x3 h1
  simpa using h2
theorem one_stored {w : World} {b : Nat} {v0 v1 v2 v3 x1 : Value} {t : TypeId} (h : w.heap[b]? = some (.cells #[v0, v1, v2, v3] t (0, 0))) :
    (w.setCell ⟨b, 1, none⟩ x1).heap[b]? = some (.cells #[v0, x1, v2, v3] t (0, 0)) := by
  have h1 := heap_setCell_same w b 1 #[v0, v1, v2, v3] t x1 h
  simpa using h1

def RdPost (w : World) (base R : Nat) (v : Value) (xs : List Nat) (p : Nat) (en on : Int) (w' : World) : Prop := Rd w' base R v xs p en on ∧ Fr w w' (fun k => k = R)

theorem Rd.ne {w : World} {base R : Nat} {v : Value} {xs : List Nat} {p : Nat} {en on : Int} (h : Rd w base R v xs p en on) : v.ownBlock ≠ some R := own_ne h.own h.cell (by decide)

theorem fr_set (w : World) (R o : Nat) (u : Value) : Fr w (w.setCell ⟨R, o, none⟩ u) (fun k => k = R) :=
  Fr.setCell (S := fun k => k = R) (Fr.refl w _) (fun _ => rfl) u

theorem Rd.failedAt {w : World} {base R : Nat} {v : Value} {xs : List Nat} {p : Nat} {en on en' on' : Int} (h : Rd w base R v xs p en on) :
    RdPost w base R v xs p en' on' ((w.setCell ⟨R, 2, none⟩ (.int .i64 en')).setCell ⟨R, 3, none⟩ (.int .i64 on')) :=
  ⟨⟨two_stored h.cell, ownsRow_setCell_other (ownsRow_setCell_other h.own h.ne _) h.ne _⟩, (fr_set _ _ _ _).trans (fr_set _ _ _ _)⟩

theorem Rd.movedTo {w : World} {base R : Nat} {v : Value} {xs : List Nat} {p q : Nat} {en on : Int} (h : Rd w base R v xs p en on) :
    RdPost w base R v xs q en on (w.setCell ⟨R, 1, none⟩ (.int .i64 (q : Int))) :=
  ⟨⟨one_stored h.cell, ownsRow_setCell_other h.own h.ne _⟩, fr_set _ _ _ _⟩

theorem Rd.same {w : World} {base R : Nat} {v : Value} {xs : List Nat} {p : Nat} {en on : Int} (h : Rd w base R v xs p en on) : RdPost w base R v xs p en on w := ⟨h, Fr.refl _ _⟩

/-- The first fault stays. -/
def fEn (en e' : Int) : Int := if en = 0 ∧ e' ≠ 0 then e' else en
def fOn (en e' on at' : Int) : Int := if en = 0 ∧ e' ≠ 0 then at' else on

set_option maxHeartbeats 800000 in
set_option maxRecDepth 100000 in
theorem fail_any (base R : Nat) (v : Value) (xs : List Nat) (p : Nat) (en on e' at' : Int) (w : World) (h : Rd w base R v xs p en on) :
    Calls Try.prog 37 #[.pointer (some ⟨R, 0, none⟩), .int .i64 e', .int .i64 at'] w fun e w' => e = .returned (.tuple #[]) ∧ RdPost w base R v xs p (fEn en e') (fOn en e' on at') w' := by
  obtain ⟨c0, c1, c2, c3⟩ := four_cells h.cell
  have f2 := free_of h.cell 2
  have f3 := free_of h.cell 3
  by_cases h0 : en = 0
  · subst h0
    by_cases h1 : e' = 0
    · subst h1
      have HP : Hid (RdPost w base R v xs p 0 on w) := h.same
      clear h
      go_enter Try.func37, Try.ntmps37
      go_wp2
      go_end0
      exact ⟨rfl, by simpa [fEn, fOn] using HP.out⟩
    · have h1' : (e' != 0) = true := by simpa using h1
      have HP : Hid (RdPost w base R v xs p e' at' ((w.setCell ⟨R, 2, none⟩ (.int .i64 e')).setCell ⟨R, 3, none⟩ (.int .i64 at'))) := h.failedAt
      clear h
      go_enter Try.func37, Try.ntmps37
      go_wp2
      go_end0
      exact ⟨rfl, by simpa [fEn, fOn, h1] using HP.out⟩
  · have h0' : (en != 0) = true := by simpa using h0
    have HP : Hid (RdPost w base R v xs p en on w) := h.same
    clear h
    go_enter Try.func37, Try.ntmps37
    go_wp2
    go_end0
    exact ⟨rfl, by simpa [fEn, fOn, h0] using HP.out⟩
end Go.Proofs.Ytmadlmbpgkifoab
