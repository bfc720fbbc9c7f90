/- reads: a Reader tells what a Writer was told: a walk. -/
import Derived.Test.YtdhobmnljniccabAsk
import Derived.Deep.DeepCutAuto
import Derived.Deep.RegionHeld
namespace Go.Proofs.Ytdhobmnljniccab
open Go.RowKit
attribute [local go_sem ↓] Go.wp_at_zero Go.wp_at_succ

theorem str8_nums8 (s : ByteArray) : str8 (nums8 s) = s := by
  cases s with
  | mk d =>
    unfold str8 nums8
    congr 1
    apply Array.ext'
    simp [List.map_map, Function.comp_def]

theorem read_num (base R : Nat) (v : Value) (xs r : List Nat) (p n : Nat) (w : World) (h : Rd w base R v xs p 0 0) (hp : p ≤ xs.length) (hx : xs.length ≤ 140737488355328) (hb8 : ∀ j, xs.getD j 0 < 256) (hn : n < 9223372036854775808) (hd : xs.drop p = sev 9 n ++ r) :
    Calls Try.prog 22 #[.pointer (some ⟨R, 0, none⟩), .int .i64 9223372036854775807] w fun e w' => e = .returned (.int .i64 (n : Int)) ∧ RdPost w base R v xs (p + (sev 9 n).length) 0 0 w' := by
  refine (rnum_any base R v xs p 0 9223372036854775807 w h hp hx hb8).mono ?_
  rintro e w' ⟨rfl, hw⟩
  rw [rb_num xs r p n hn hd] at hw ⊢
  have hm : (n : Int) ≤ 9223372036854775807 := by omega
  have e1 : rnV 9223372036854775807 (0, 0, n, p + (sev 9 n).length) = (n : Int) := by simp [rnV, hm]
  have e2 : rnE 9223372036854775807 (0, 0, n, p + (sev 9 n).length) = 0 := by simp [rnE, hm]
  have e3 : rnO 0 p 9223372036854775807 (0, 0, n, p + (sev 9 n).length) = 0 := by simp [rnO, hm]
  rw [e2, e3] at hw
  rw [e1]
  exact ⟨rfl, hw⟩
theorem read_int (base R : Nat) (v : Value) (xs r : List Nat) (p : Nat) (n : Int) (w : World) (h : Rd w base R v xs p 0 0) (hp : p ≤ xs.length) (hx : xs.length ≤ 140737488355328) (hb8 : ∀ j, xs.getD j 0 < 256) (h0 : -9223372036854775808 ≤ n) (h1 : n ≤ 9223372036854775807) (hd : xs.drop p = sev 9 (zig n) ++ r) :
    Calls Try.prog 23 #[.pointer (some ⟨R, 0, none⟩)] w fun e w' => e = .returned (.int .i64 n) ∧ RdPost w base R v xs (p + (sev 9 (zig n)).length) 0 0 w' := by
  refine (rint_any base R v xs p 0 w h hp hx hb8).mono ?_
  rintro e w' ⟨rfl, hw⟩
  rw [rb_int xs r p (zig n) (zig_lt n h0 h1) hd] at hw ⊢
  exact ⟨by rw [zag_zig], hw⟩
theorem read_text (base R : Nat) (v : Value) (xs r : List Nat) (p : Nat) (s : ByteArray) (w : World) (h : Rd w base R v xs p 0 0) (hp : p ≤ xs.length) (hx : xs.length ≤ 140737488355328) (hb8 : ∀ j, xs.getD j 0 < 256) (hs : s.size ≤ 1048576) (hd : xs.drop p = sev 9 s.size ++ (nums8 s ++ r)) :
    Calls Try.prog 35 #[.pointer (some ⟨R, 0, none⟩), .int .i64 (s.size : Int)] w fun e w' => e = .returned (.string s) ∧ RdPost w base R v xs (p + (sev 9 s.size).length + s.size) 0 0 w' := by
  have hr := rb_num xs (nums8 s ++ r) p s.size (by omega) hd
  have hl1 := (sev_length 9 s.size).2
  have hlen := congrArg List.length hd
  rw [List.length_drop, List.length_append, List.length_append, nums8_length] at hlen
  have hd2 : xs.drop (p + (sev 9 s.size).length) = nums8 s ++ r := by
    have := congrArg (List.drop (sev 9 s.size).length) hd
    rw [List.drop_drop, List.drop_left] at this
    exact this
  have ht : (xs.drop (p + (sev 9 s.size).length)).take s.size = nums8 s := by
    rw [hd2, ← nums8_length s, List.take_left]
  refine (rtext_good base R v xs p s.size _ (s.size : Int) 0 w h hp hx hb8 hr (Int.le_refl _) (by omega) (by omega)).mono ?_
  rintro e w' ⟨rfl, hw⟩
  rw [ht, str8_nums8]
  exact ⟨rfl, hw⟩

/-- Where reads stands. -/
structure RS (w0 w : World) (base R : Nat) (v : Value) (xs : List Nat) (p : Nat) (rest : List Nat) (wx : World) : Prop where
  rd : Rd wx base R v xs p 0 0
  le : p ≤ xs.length
  dr : xs.drop p = rest
  fr : Fr w wx (fun _ => False)
  bl : Below w0.heap.size w0 wx
  ge : w.heap.size ≤ R

theorem RS.step {w0 w : World} {base R : Nat} {v : Value} {xs : List Nat} {p : Nat} {E rest : List Nat} {wx w' : World} (h : RS w0 w base R v xs p (E ++ rest) wx) (hw0 : w0.heap.size ≤ w.heap.size) (hw : RdPost wx base R v xs (p + E.length) 0 0 w') : RS w0 w base R v xs (p + E.length) rest w' := by
  have hl := congrArg List.length h.dr
  rw [List.length_drop, List.length_append] at hl
  have hle := h.le
  have hge := h.ge
  refine ⟨hw.1, by omega, ?_, ?_, h.bl.trans (hw.2.below h.bl.size (fun k e => by omega)), h.ge⟩
  · have := congrArg (List.drop E.length) h.dr
    rw [List.drop_drop, List.drop_left] at this
    exact this
  · exact h.fr.trans2 hw.2 (fun i hi e => by omega)
theorem RS.drewN {w0 w : World} {base R : Nat} {v : Value} {xs : List Nat} {p : Nat} {rest : List Nat} {wx : World} (h : RS w0 w base R v xs p rest wx) (n : Nat) : RS w0 w base R v xs p rest (wx.drewN n) :=
  ⟨h.rd.drewN n, h.le, h.dr, h.fr.drewN n, h.bl.trans (((Fr.refl wx (fun _ => False)).drewN n).below h.bl.size (fun _ h => h.elim)), h.ge⟩
end Go.Proofs.Ytdhobmnljniccab
