import Derived.Test.YtbhhpkbiflolfaaMCellP
import Derived.Test.YtbhhpkbiflolfaaRows
import Derived.WalkKit
import Derived.Below
import Derived.Deep.RegionWith
import Derived.Deep.RegionHeld3
import Derived.Deep.LoopGhost
import Derived.BigQuiet
import Derived.Lib.Walk
/- merge: comparing: walks of cmp.Compare, strings.Compare, cmp.Or. -/
namespace Go.Proofs.Ytbhhpkbiflolfaa.M
open Go.RowKit

theorem hid {p : Prop} (h : p) : Hid p := h
/-- Behind a call that turns nothing old, every old cell reads as before. -/
theorem fr_rules {a w' : World} (h : Fr a w' (fun _ => False)) : (∀ b o, b < a.heap.size → w'.cell? ⟨b, o, none⟩ = a.cell? ⟨b, o, none⟩) ∧ (∀ b o, b < a.heap.size → w'.frozen? ⟨b, o, none⟩ = a.frozen? ⟨b, o, none⟩) := by
  have hb : Below a.heap.size a w' := h.below (Nat.le_refl _) (fun _ h => h.elim)
  exact ⟨fun b o h => hb.cell (p := ⟨b, o, none⟩) h, fun b o h => hb.frozen (p := ⟨b, o, none⟩) h⟩
theorem heap_last (w : World) (o : Obj) (k : Nat) (h : w.heap.size = k) : (w.alloc o).heap[k]? = some o := by subst h; exact heap_alloc_new w o

theorem nan_any (a : Int) (w : World) : Calls Try.prog 86 #[.int .i64 a] w fun e w' => e = .returned (.bool false) ∧ w' = w := by
  go_enter Try.func86, Try.ntmps86
  go_wp2_with fail
  go_ret
  exact ⟨by simp, rfl⟩
set_option maxRecDepth 100000 in
theorem cmp_any (a b : Int) (w : World) : Calls Try.prog 63 #[.int .i64 a, .int .i64 b] w fun e w' => e = .returned (.int .i64 (cmpI a b)) ∧ w' = w := by
  unfold cmpI
  by_cases h1 : a < b
  · rw [if_pos h1]
    go_enter Try.func63, Try.ntmps63
    go_wp2_with (go_at_call 86; refine (nan_any _ _).mono ?_; rintro e w1 ⟨rfl, rfl⟩)
    go_ret
    exact ⟨rfl, rfl⟩
  · rw [if_neg h1]
    by_cases h2 : b < a
    · rw [if_pos h2]
      go_enter Try.func63, Try.ntmps63
      go_wp2_with (go_at_call 86; refine (nan_any _ _).mono ?_; rintro e w1 ⟨rfl, rfl⟩)
      go_ret
      exact ⟨rfl, rfl⟩
    · rw [if_neg h2]
      go_enter Try.func63, Try.ntmps63
      go_wp2_with (go_at_call 86; refine (nan_any _ _).mono ?_; rintro e w1 ⟨rfl, rfl⟩)
      go_ret
      exact ⟨rfl, rfl⟩

theorem nan64_any (a : Int) (w : World) : Calls Try.prog 88 #[.int .i64 a] w fun e w' => e = .returned (.bool false) ∧ w' = w := by
  go_enter Try.func88, Try.ntmps88
  go_wp2_with fail
  go_ret
  exact ⟨by simp, rfl⟩
set_option maxRecDepth 100000 in
theorem cmp64_any (a b : Int) (w : World) : Calls Try.prog 65 #[.int .i64 a, .int .i64 b] w fun e w' => e = .returned (.int .i64 (cmpI a b)) ∧ w' = w := by
  unfold cmpI
  by_cases h1 : a < b
  · rw [if_pos h1]
    go_enter Try.func65, Try.ntmps65
    go_wp2_with (go_at_call 88; refine (nan64_any _ _).mono ?_; rintro e w1 ⟨rfl, rfl⟩)
    go_ret
    exact ⟨rfl, rfl⟩
  · rw [if_neg h1]
    by_cases h2 : b < a
    · rw [if_pos h2]
      go_enter Try.func65, Try.ntmps65
      go_wp2_with (go_at_call 88; refine (nan64_any _ _).mono ?_; rintro e w1 ⟨rfl, rfl⟩)
      go_ret
      exact ⟨rfl, rfl⟩
    · rw [if_neg h2]
      go_enter Try.func65, Try.ntmps65
      go_wp2_with (go_at_call 88; refine (nan64_any _ _).mono ?_; rintro e w1 ⟨rfl, rfl⟩)
      go_ret
      exact ⟨rfl, rfl⟩

set_option maxRecDepth 100000 in
theorem cmpString_any (a b : ByteArray) (w : World) : Calls Try.prog 87 #[.string a, .string b] w fun e w' => e = .returned (.int .i64 (cb (nums8 a) (nums8 b))) ∧ w' = w := by
  rw [← cb_nums8]
  go_enter Try.func87, Try.ntmps87
  go_wp2
  rw [run_callFunc_extern Try.func104 (by kernel_rfl) (by kernel_rfl) (by kernel_rfl) (e := Extern.BytealgCompare.compare) (by kernel_rfl), Lib.run_compareString]
  simp only [Result.andThen]
  rw [Oper.upon_value]
  go_wp2
  go_ret
  exact ⟨rfl, rfl⟩
set_option maxRecDepth 100000 in
theorem compare_any (a b : ByteArray) (w : World) : Calls Try.prog 64 #[.string a, .string b] w fun e w' => e = .returned (.int .i64 (cb (nums8 a) (nums8 b))) ∧ w' = w := by
  go_enter Try.func64, Try.ntmps64
  go_wp2_with fail
  refine (cmpString_any a b w).mono ?_
  rintro e w1 ⟨rfl, hw1⟩
  have hw1 := hw1.symm
  subst hw1
  go_wp2_with fail
  go_ret
  exact ⟨rfl, rfl⟩

/-- The first that is not 0. -/
def orL : List Int → Int
  | [] => 0
  | x :: l => if x ≠ 0 then x else orL l
theorem orL_snoc : ∀ (l m : List Int), (∀ x ∈ l, x = 0) → orL (l ++ m) = orL m
  | [], _, _ => rfl
  | x :: l, m, h => by
    simp only [List.cons_append, orL]
    rw [if_neg (by have := h x (by simp); omega)]
    exact orL_snoc l m (fun y hy => h y (by simp [hy]))
theorem drop_getD {xs : List Int} {i : Nat} (h : i < xs.length) : xs.drop i = xs.getD i 0 :: xs.drop (i + 1) := by
  rw [List.drop_eq_getElem_cons h]
  simp [h]
set_option maxRecDepth 100000 in
theorem or_any (xs : List Int) (N cap : Nat) (w : World) (hl : xs.length ≤ 1000) (hc : ∀ i, i < xs.length → w.cell? ⟨N, i, none⟩ = some (.int .i64 (xs.getD i 0))) :
    Calls Try.prog 62 #[.slice (some ⟨N, 0, none⟩) xs.length cap] w fun e w' => e = .returned (.int .i64 (orL xs)) ∧ w' = w := by
  go_enter Try.func62, Try.ntmps62
  go_wp2_with fail
  have HC := hid hc
  clear hc
  go_loopg [8] xs.length (fun g s8 wx => ∃ i : Nat, s8 = .int .i64 (i : Int) ∧ i + g = xs.length ∧ Hid (orL xs = orL (xs.drop i)) ∧ wx = w)
  case atStart => exact ⟨0, rfl, by omega, rfl, rfl⟩
  case round =>
    obtain ⟨i, rfl, hg, HO, rfl⟩ := hrel
    cases gk with
    | zero =>
      have t1 : ¬ (i : Int) < (xs.length : Int) := by omega
      have HE := hid (show i = xs.length by omega)
      clear hg
      go_wp2_with fail
      go_ret
      refine ⟨?_, rfl⟩
      rw [HO.out, HE.out, List.drop_length]
      rfl
    | succ g =>
      have hi : i < xs.length := by omega
      have t1 : (i : Int) < (xs.length : Int) := by omega
      have hx := HC.out i hi
      have hd := drop_getD hi
      have HG := hid hg
      clear hg
      rw [hd] at HO
      clear hd
      generalize xs.getD i 0 = x at *
      by_cases h0 : x = 0
      · subst h0
        go_wp2_with fail
        go_roundg g
        case measure => omega
        case rel => exact ⟨i + 1, by go_num, by have := HG.out; omega, HO.out, rfl⟩
      · have t2 : (x != 0) = true := by simpa using h0
        go_wp2_with fail
        go_ret
        refine ⟨?_, rfl⟩
        rw [HO.out]
        show Ending.returned (Value.int .i64 x) = .returned (.int .i64 (if x ≠ 0 then x else _))
        rw [if_pos h0]
end Go.Proofs.Ytbhhpkbiflolfaa.M
