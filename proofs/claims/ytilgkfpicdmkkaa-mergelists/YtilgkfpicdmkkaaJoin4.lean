/- Texts of one proof, joined. -/
import Derived.Test.YtilgkfpicdmkkaaJoin3
import Derived.Test.YtilgkfpicdmkkaaRows
import Derived.WalkKit
import Derived.Below
import Derived.Deep.RegionWith
import Derived.Deep.RegionHeld3
import Derived.Deep.LoopGhost
import Derived.BigQuiet
import Derived.Lib.Walk
section
/- merge: comparing: walks of cmp.Compare, strings.Compare, cmp.Or. -/
namespace Go.Proofs.Ytilgkfpicdmkkaa.M
open Go.RowKit

theorem hid {p : Prop} (h : p) : Hid p := h
/-- Behind a call that turns nothing old, every old cell reads as before. -/
theorem fr_rules {a w' : World} (h : Fr a w' (fun _ => False)) : (∀ b o, b < a.heap.size → w'.cell? ⟨b, o, none⟩ = a.cell? ⟨b, o, none⟩) ∧ (∀ b o, b < a.heap.size → w'.frozen? ⟨b, o, none⟩ = a.frozen? ⟨b, o, none⟩) := by
  have hb : Below a.heap.size a w' := h.below (Nat.le_refl _) (fun _ h => h.elim)
  exact ⟨fun b o h => hb.cell (p := ⟨b, o, none⟩) h, fun b o h => hb.frozen (p := ⟨b, o, none⟩) h⟩
theorem heap_last (w : World) (o : Obj) (k : Nat) (h : w.heap.size = k) : (w.alloc o).heap[k]? = some o := by subst h; exact heap_alloc_new w o

theorem nan_any (a : Int) (w : World) : Calls Try.prog 46 #[.int .i64 a] w fun e w' => e = .returned (.bool false) ∧ w' = w := by
  go_enter Try.func46, Try.ntmps46
  go_wp2_with fail
  go_ret
  exact ⟨by simp, rfl⟩
set_option maxRecDepth 100000 in
theorem cmp_any (a b : Int) (w : World) : Calls Try.prog 31 #[.int .i64 a, .int .i64 b] w fun e w' => e = .returned (.int .i64 (cmpI a b)) ∧ w' = w := by
  unfold cmpI
  by_cases h1 : a < b
  · rw [if_pos h1]
    go_enter Try.func31, Try.ntmps31
    go_wp2_with (go_at_call 46; refine (nan_any _ _).mono ?_; rintro e w1 ⟨rfl, rfl⟩)
    go_ret
    exact ⟨rfl, rfl⟩
  · rw [if_neg h1]
    by_cases h2 : b < a
    · rw [if_pos h2]
      go_enter Try.func31, Try.ntmps31
      go_wp2_with (go_at_call 46; refine (nan_any _ _).mono ?_; rintro e w1 ⟨rfl, rfl⟩)
      go_ret
      exact ⟨rfl, rfl⟩
    · rw [if_neg h2]
      go_enter Try.func31, Try.ntmps31
      go_wp2_with (go_at_call 46; refine (nan_any _ _).mono ?_; rintro e w1 ⟨rfl, rfl⟩)
      go_ret
      exact ⟨rfl, rfl⟩

theorem nan64_any (a : Int) (w : World) : Calls Try.prog 54 #[.int .i64 a] w fun e w' => e = .returned (.bool false) ∧ w' = w := by
  go_enter Try.func54, Try.ntmps54
  go_wp2_with fail
  go_ret
  exact ⟨by simp, rfl⟩
set_option maxRecDepth 100000 in
theorem cmp64_any (a b : Int) (w : World) : Calls Try.prog 51 #[.int .i64 a, .int .i64 b] w fun e w' => e = .returned (.int .i64 (cmpI a b)) ∧ w' = w := by
  unfold cmpI
  by_cases h1 : a < b
  · rw [if_pos h1]
    go_enter Try.func51, Try.ntmps51
    go_wp2_with (go_at_call 54; refine (nan64_any _ _).mono ?_; rintro e w1 ⟨rfl, rfl⟩)
    go_ret
    exact ⟨rfl, rfl⟩
  · rw [if_neg h1]
    by_cases h2 : b < a
    · rw [if_pos h2]
      go_enter Try.func51, Try.ntmps51
      go_wp2_with (go_at_call 54; refine (nan64_any _ _).mono ?_; rintro e w1 ⟨rfl, rfl⟩)
      go_ret
      exact ⟨rfl, rfl⟩
    · rw [if_neg h2]
      go_enter Try.func51, Try.ntmps51
      go_wp2_with (go_at_call 54; refine (nan64_any _ _).mono ?_; rintro e w1 ⟨rfl, rfl⟩)
      go_ret
      exact ⟨rfl, rfl⟩

set_option maxRecDepth 100000 in
theorem cmpString_any (a b : ByteArray) (w : World) : Calls Try.prog 53 #[.string a, .string b] w fun e w' => e = .returned (.int .i64 (cb (nums8 a) (nums8 b))) ∧ w' = w := by
  rw [← cb_nums8]
  go_enter Try.func53, Try.ntmps53
  go_wp2
  rw [run_callFunc_extern Try.func55 (by kernel_rfl) (by kernel_rfl) (by kernel_rfl) (e := Extern.BytealgCompare.compare) (by kernel_rfl), Lib.run_compareString]
  simp only [Result.andThen]
  rw [Oper.upon_value]
  go_wp2
  go_ret
  exact ⟨rfl, rfl⟩
set_option maxRecDepth 100000 in
theorem compare_any (a b : ByteArray) (w : World) : Calls Try.prog 50 #[.string a, .string b] w fun e w' => e = .returned (.int .i64 (cb (nums8 a) (nums8 b))) ∧ w' = w := by
  go_enter Try.func50, Try.ntmps50
  go_wp2_with fail
  refine (cmpString_any a b w).mono ?_
  rintro e w1 ⟨rfl, hw1⟩
  have hw1 := hw1.symm
  subst hw1
  go_wp2_with fail
  go_ret
  exact ⟨rfl, rfl⟩

/-- The first that is not 0. -/
def orL : List Int → Int
  | [] => 0
  | x :: l => if x ≠ 0 then x else orL l
theorem orL_snoc : ∀ (l m : List Int), (∀ x ∈ l, x = 0) → orL (l ++ m) = orL m
  | [], _, _ => rfl
  | x :: l, m, h => by
    simp only [List.cons_append, orL]
    rw [if_neg (by have := h x (by simp); omega)]
    exact orL_snoc l m (fun y hy => h y (by simp [hy]))
theorem drop_getD {xs : List Int} {i : Nat} (h : i < xs.length) : xs.drop i = xs.getD i 0 :: xs.drop (i + 1) := by
  rw [List.drop_eq_getElem_cons h]
  simp [h]
set_option maxRecDepth 100000 in
theorem or_any (xs : List Int) (N cap : Nat) (w : World) (hl : xs.length ≤ 1000) (hc : ∀ i, i < xs.length → w.cell? ⟨N, i, none⟩ = some (.int .i64 (xs.getD i 0))) :
    Calls Try.prog 49 #[.slice (some ⟨N, 0, none⟩) xs.length cap] w fun e w' => e = .returned (.int .i64 (orL xs)) ∧ w' = w := by
  go_enter Try.func49, Try.ntmps49
  go_wp2_with fail
  have HC := hid hc
  clear hc
  go_loopg [8] xs.length (fun g s8 wx => ∃ i : Nat, s8 = .int .i64 (i : Int) ∧ i + g = xs.length ∧ Hid (orL xs = orL (xs.drop i)) ∧ wx = w)
  case atStart => exact ⟨0, rfl, by omega, rfl, rfl⟩
  case round =>
    obtain ⟨i, rfl, hg, HO, rfl⟩ := hrel
    cases gk with
    | zero =>
      have t1 : ¬ (i : Int) < (xs.length : Int) := by omega
      have HE := hid (show i = xs.length by omega)
      clear hg
      go_wp2_with fail
      go_ret
      refine ⟨?_, rfl⟩
      rw [HO.out, HE.out, List.drop_length]
      rfl
    | succ g =>
      have hi : i < xs.length := by omega
      have t1 : (i : Int) < (xs.length : Int) := by omega
      have hx := HC.out i hi
      have hd := drop_getD hi
      have HG := hid hg
      clear hg
      rw [hd] at HO
      clear hd
      generalize xs.getD i 0 = x at *
      by_cases h0 : x = 0
      · subst h0
        go_wp2_with fail
        go_roundg g
        case measure => omega
        case rel => exact ⟨i + 1, by go_num, by have := HG.out; omega, HO.out, rfl⟩
      · have t2 : (x != 0) = true := by simpa using h0
        go_wp2_with fail
        go_ret
        refine ⟨?_, rfl⟩
        rw [HO.out]
        show Ending.returned (Value.int .i64 x) = .returned (.int .i64 (if x ≠ 0 then x else _))
        rw [if_pos h0]
end Go.Proofs.Ytilgkfpicdmkkaa.M
end

section
/- merge: Compare, compareRows: walks. -/
namespace Go.Proofs.Ytilgkfpicdmkkaa.M
open Go.RowKit

/-- A cell as a value. -/
def vC (c : Cl) : Value := .agg #[.int .i64 c.v, .string c.k, .int .i64 c.s]
theorem cells3 {w : World} {N : Nat} {a b c : Value} {e : TypeId} (h : w.heap[N]? = some (.cells #[a, b, c] e (0, 0))) : w.cell? ⟨N, 0, none⟩ = some a ∧ w.cell? ⟨N, 1, none⟩ = some b ∧ w.cell? ⟨N, 2, none⟩ = some c := by
  refine ⟨?_, ?_, ?_⟩ <;> simp [World.cell?, h]
theorem cmpC_or (a b : Cl) : cmpC a b = orL [cmpI a.v b.v, cb (nums8 a.k) (nums8 b.k), cmpI a.s b.s] := by
  unfold cmpC orL orL orL
  by_cases h1 : cmpI a.v b.v ≠ 0
  · rw [if_pos h1, if_pos h1]
  · rw [if_neg h1, if_neg h1]
    by_cases h2 : cb (nums8 a.k) (nums8 b.k) ≠ 0
    · rw [if_pos h2, if_pos h2]
    · rw [if_neg h2, if_neg h2]
      by_cases h3 : cmpI a.s b.s ≠ 0
      · rw [if_pos h3]
      · rw [if_neg h3]
        simp [orL]
        omega

theorem or3_any (x y z : Int) (W : World) : Calls Try.prog 49 #[.slice (some ⟨W.heap.size, 0, none⟩) 3 3] (W.alloc (.cells #[.int .i64 x, .int .i64 y, .int .i64 z] 3)).drew fun e w' => e = .returned (.int .i64 (orL [x, y, z])) ∧ w' = (W.alloc (.cells #[.int .i64 x, .int .i64 y, .int .i64 z] 3)).drew := by
  have h := heap_last W (.cells #[.int .i64 x, .int .i64 y, .int .i64 z] 3) _ rfl
  obtain ⟨h0, h1, h2⟩ := cells3 h
  refine or_any [x, y, z] W.heap.size 3 _ (by simp) (fun i hi => ?_)
  match i, hi with
  | 0, _ => exact h0
  | 1, _ => exact h1
  | 2, _ => exact h2
theorem cells2 {w : World} {N : Nat} {a b : Value} {e : TypeId} (h : w.heap[N]? = some (.cells #[a, b] e (0, 0))) : w.cell? ⟨N, 0, none⟩ = some a ∧ w.cell? ⟨N, 1, none⟩ = some b := by
  refine ⟨?_, ?_⟩ <;> simp [World.cell?, h]
theorem or2_any (x y : Int) (W : World) : Calls Try.prog 49 #[.slice (some ⟨W.heap.size, 0, none⟩) 2 2] (W.alloc (.cells #[.int .i64 x, .int .i64 y] 3)).drew fun e w' => e = .returned (.int .i64 (orL [x, y])) ∧ w' = (W.alloc (.cells #[.int .i64 x, .int .i64 y] 3)).drew := by
  have h := heap_last W (.cells #[.int .i64 x, .int .i64 y] 3) _ rfl
  obtain ⟨h0, h1⟩ := cells2 h
  refine or_any [x, y] W.heap.size 2 _ (by simp) (fun i hi => ?_)
  match i, hi with
  | 0, _ => exact h0
  | 1, _ => exact h1

theorem or2n_any (x y : Int) (W : World) : Calls Try.prog 49 #[.slice (some ⟨W.heap.size, 0, none⟩) 2 2] (W.alloc (.cells #[.int .i64 x, .int .i64 y] 3)) fun e w' => e = .returned (.int .i64 (orL [x, y])) ∧ w' = W.alloc (.cells #[.int .i64 x, .int .i64 y] 3) := by
  have h := heap_last W (.cells #[.int .i64 x, .int .i64 y] 3) _ rfl
  obtain ⟨h0, h1⟩ := cells2 h
  refine or_any [x, y] W.heap.size 2 _ (by simp) (fun i hi => ?_)
  match i, hi with
  | 0, _ => exact h0
  | 1, _ => exact h1

set_option maxHeartbeats 1000000 in
set_option maxRecDepth 100000 in
theorem compareC_any (a b : Cl) (w : World) : Calls Try.prog 43 #[vC a, vC b] w fun e w' => e = .returned (.int .i64 (cmpC a b)) ∧ Fr w w' (fun _ => False) := by
  rw [cmpC_or]
  unfold vC
  have HX := hid (fun W => cmp_any a.v b.v W)
  have HY := hid (fun W => compare_any a.k b.k W)
  have HZ := hid (fun W => cmp64_any a.s b.s W)
  generalize cmpI a.v b.v = x at *
  generalize cb (nums8 a.k) (nums8 b.k) = y at *
  generalize cmpI a.s b.s = z at *
  go_enter Try.func43, Try.ntmps43
  go_wp2_with fail
  have HF0 := hid (((alloc_fr w (.cells #[.int .i64 a.v, .string a.k, .int .i64 a.s] 52) (fun _ => False)).alloc (.cells #[.int .i64 b.v, .string b.k, .int .i64 b.s] 52)))
  have hA : ((w.alloc (.cells #[.int .i64 a.v, .string a.k, .int .i64 a.s] 52)).alloc (.cells #[.int .i64 b.v, .string b.k, .int .i64 b.s] 52)).heap[w.heap.size]? = some (.cells #[.int .i64 a.v, .string a.k, .int .i64 a.s] 52 (0, 0)) := by
    rw [(alloc_fr (w.alloc (.cells #[.int .i64 a.v, .string a.k, .int .i64 a.s] 52)) (.cells #[.int .i64 b.v, .string b.k, .int .i64 b.s] 52) (fun _ => False)).block _ (by simp) (fun h => h)]
    exact heap_last _ _ _ rfl
  have hB := heap_last (w.alloc (.cells #[.int .i64 a.v, .string a.k, .int .i64 a.s] 52)) (.cells #[.int .i64 b.v, .string b.k, .int .i64 b.s] 52) (w.heap.size + 1) (by simp)
  obtain ⟨a0, a1, a2⟩ := cells3 hA
  obtain ⟨b0, b1, b2⟩ := cells3 hB
  have hlA := lt_of_block hA
  have hlB := lt_of_block hB
  clear hA hB
  generalize ((w.alloc (.cells #[.int .i64 a.v, .string a.k, .int .i64 a.s] 52)).alloc (.cells #[.int .i64 b.v, .string b.k, .int .i64 b.s] 52)) = W0 at *
  generalize w.heap.size = N at *
  have HC := hid (fun (W' : World) (hf : Fr W0 W' (fun _ => False)) => (show W'.cell? ⟨N, 0, none⟩ = some (.int .i64 a.v) ∧ W'.cell? ⟨N, 1, none⟩ = some (.string a.k) ∧ W'.cell? ⟨N, 2, none⟩ = some (.int .i64 a.s) ∧ W'.cell? ⟨N + 1, 0, none⟩ = some (.int .i64 b.v) ∧ W'.cell? ⟨N + 1, 1, none⟩ = some (.string b.k) ∧ W'.cell? ⟨N + 1, 2, none⟩ = some (.int .i64 b.s) from by
    have hr := (fr_rules hf).1
    exact ⟨by rw [hr _ _ hlA]; exact a0, by rw [hr _ _ hlA]; exact a1, by rw [hr _ _ hlA]; exact a2, by rw [hr _ _ hlB]; exact b0, by rw [hr _ _ hlB]; exact b1, by rw [hr _ _ hlB]; exact b2⟩))
  have HF := hid (Fr.refl W0 (fun _ => False))
  clear a0 a1 a2 b0 b1 b2 hlA hlB
  go_region_held3 (fun W' => Hid (Fr W0 W' (fun _ => False)) ∧ W'.cell? ⟨N, 0, none⟩ = some (.int .i64 a.v) ∧ W'.cell? ⟨N, 1, none⟩ = some (.string a.k) ∧ W'.cell? ⟨N, 2, none⟩ = some (.int .i64 a.s) ∧ W'.cell? ⟨N + 1, 0, none⟩ = some (.int .i64 b.v) ∧ W'.cell? ⟨N + 1, 1, none⟩ = some (.string b.k) ∧ W'.cell? ⟨N + 1, 2, none⟩ = some (.int .i64 b.s))
    ((refine (fun h => ⟨h, HC.out _ h⟩ : Fr W0 _ (fun _ => False) → _) ?_; repeat (first | exact HF.out | exact Fr.refl _ _ | apply Fr.drew | apply Fr.alloc)))
    (first
    | (go_at_call 31; refine (HX.out _).mono ?_; rintro e w1 ⟨rfl, rfl⟩)
    | (go_at_call 50; refine (HY.out _).mono ?_; rintro e w1 ⟨rfl, rfl⟩)
    | (go_at_call 51; refine (HZ.out _).mono ?_; rintro e w1 ⟨rfl, rfl⟩)
    | (go_at_call 49; refine (or3_any _ _ _ _).mono ?_; rintro e w1 ⟨rfl, rfl⟩)
    | fail)
  go_wp2_with fail
  go_ret
  exact ⟨rfl, HF0.out.trans (((Fr.refl W0 _).alloc _).drew)⟩

theorem cells7 {w : World} {N : Nat} {a b c d e f g : Value} {t : TypeId} (h : w.heap[N]? = some (.cells #[a, b, c, d, e, f, g] t (0, 0))) : w.cell? ⟨N, 0, none⟩ = some a ∧ w.cell? ⟨N, 1, none⟩ = some b ∧ w.cell? ⟨N, 2, none⟩ = some c ∧ w.cell? ⟨N, 3, none⟩ = some d ∧ w.cell? ⟨N, 4, none⟩ = some e ∧ w.cell? ⟨N, 5, none⟩ = some f ∧ w.cell? ⟨N, 6, none⟩ = some g := by
  refine ⟨?_, ?_, ?_, ?_, ?_, ?_, ?_⟩ <;> simp [World.cell?, h]
set_option maxHeartbeats 1000000 in
set_option maxRecDepth 100000 in
theorem compareR_any (a b : Rw) (w : World) : Calls Try.prog 27 #[.agg (vR a).toArray, .agg (vR b).toArray] w fun e w' => e = .returned (.int .i64 (cmpC a.c b.c)) ∧ Fr w w' (fun _ => False) := by
  have HX := hid (fun W => compareC_any a.c b.c W)
  generalize cmpC a.c b.c = x at *
  unfold vC at HX
  simp only [vR]
  go_enter Try.func27, Try.ntmps27
  go_wp2_with fail
  refine (HX.out _).mono ?_
  rintro e w1 ⟨rfl, hf⟩
  have HF := hid (((alloc_fr w _ _).alloc _).trans hf)
  clear hf
  go_wp2_with fail
  go_ret
  exact ⟨rfl, HF.out⟩
end Go.Proofs.Ytilgkfpicdmkkaa.M
end
