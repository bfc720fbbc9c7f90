/- pane.Open's closure, slices.IndexFunc, slices.DeleteFunc: walks. -/
import Derived.Test.YtfmhdpenodmblaaQPRef
import Derived.Lib.SliceRun
namespace Go.Proofs.Ytfmhdpenodmblaa
open Go.RowKit

/-- What the closure holds: a view at N0, a mark at N1. -/
structure CL (W : World) (N0 N1 : Nat) (s d l m : Int) : Prop where
  vw : VwAt W N0 s d l
  mark : W.heap[N1]? = some (.cells #[.int .i64 m] 2 (0, 0))
theorem CL.fr {W W' : World} {S : Nat → Prop} {N0 N1 : Nat} {s d l m : Int} (h : CL W N0 N1 s d l m) (hf : Fr W W' S) (h0 : ¬ S N0) (h1 : ¬ S N1) : CL W' N0 N1 s d l m :=
  ⟨h.vw.fr hf h0, by rw [hf.block N1 (lt_of_block h.mark) h1]; exact h.mark⟩
theorem CL.cell {W : World} {N0 N1 : Nat} {s d l m : Int} (h : CL W N0 N1 s d l m) : W.cell? ⟨N1, 0, none⟩ = some (.int .i64 m) := by
  rw [cell_of_row W N1 0 _ _ (0, 0) h.mark]
  rfl

/-- Is a start's window closed under the mark? -/
def shutB (s l m x : Int) : Bool := decide (x + s + l ≤ m)

theorem opn_any {N0 N1 : Nat} {s d l m : Int} (x : Int) (h1 : fits (x + s)) (h2 : fits (x + s + l)) (W : World) (h : CL W N0 N1 s d l m) :
    Calls Try.prog 44 #[.int .i64 x, .pointer (some ⟨N0, 0, none⟩), .pointer (some ⟨N1, 0, none⟩)] W fun e W' => e = .returned (.bool (shutB s l m x)) ∧ Fr W W' (fun _ => False) := by
  have HC := hid (fun W : World => closed_any s d l x m h1 h2 W)
  obtain ⟨c0, c1, c2⟩ := h.vw.cells
  have c3 := h.cell
  have hlt := h.vw.lt
  have hlt1 := lt_of_block h.mark
  clear h h1 h2
  unfold shutB
  go_enter Try.func44, Try.ntmps44
  go_wp2_with fail
  refine (HC.out _).mono ?_
  rintro e w1 ⟨rfl, hf1⟩
  have HF1 := hid hf1
  clear hf1
  go_wp2_with fail
  go_ret
  exact ⟨rfl, HF1.out⟩

/-- The function value. -/
def clV (N0 N1 : Nat) : Value := .func (.func 44) #[] #[.pointer (some ⟨N0, 0, none⟩), .pointer (some ⟨N1, 0, none⟩)]

/-- Numbers that a view's windows may begin at. -/
def Near (s l : Int) (xs : List Int) : Prop := ∀ x ∈ xs, fits x ∧ fits (x + s) ∧ fits (x + s + l)
theorem Near.at {s l : Int} {xs : List Int} (h : Near s l xs) {i : Nat} (hi : i < xs.length) : fits (xs.getD i 0) ∧ fits (xs.getD i 0 + s) ∧ fits (xs.getD i 0 + s + l) := h _ (by simp [List.getD, hi])

set_option maxHeartbeats 1000000 in
theorem index_any {N0 N1 : Nat} {s d l m : Int} (b : Nat) (xs : List Int) (hn : Near s l xs) (hl : xs.length ≤ 64) (w : World) (hc : CL w N0 N1 s d l m) (hr : RowV w b (iv xs)) :
    Calls Try.prog 48 #[.slice (some ⟨b, 0, none⟩) xs.length xs.length, clV N0 N1] w fun e w' => ∃ k : Nat, k ≤ xs.length ∧ (∀ j, j < k → shutB s l m (xs.getD j 0) = false) ∧ Fr w w' (fun _ => False) ∧
      ((k = xs.length ∧ e = .returned (.int .i64 (-1))) ∨ (k < xs.length ∧ shutB s l m (xs.getD k 0) = true ∧ e = .returned (.int .i64 (k : Int)))) := by
  have HN := hid hn
  have HC := hid hc
  have HR := hid hr
  clear hn hc hr
  unfold clV
  go_enter Try.func48, Try.ntmps48
  go_wp2_with fail
  go_loopg [8] xs.length (fun g s8 wx => ∃ i : Nat, s8 = .int .i64 (i : Int) ∧ i + g = xs.length ∧ Hid (∀ j, j < i → shutB s l m (xs.getD j 0) = false) ∧ Hid (Fr w wx (fun _ => False)))
  case atStart => exact ⟨0, rfl, by omega, fun j hj => absurd hj (Nat.not_lt_zero j), Fr.refl _ _⟩
  case round =>
    obtain ⟨i, rfl, hg, HJ, HF⟩ := hrel
    cases gk with
    | zero =>
      have t1 : ¬ (i : Int) < (xs.length : Int) := by omega
      have HE := hid (show i = xs.length by omega)
      clear hg
      go_wp2_with fail
      go_ret
      exact ⟨i, Nat.le_of_eq HE.out, HJ.out, HF.out, Or.inl ⟨HE.out, rfl⟩⟩
    | succ g =>
      have hi : i < xs.length := by omega
      have t1 : (i : Int) < (xs.length : Int) := by omega
      have HG := hid hg
      have HI := hid hi
      clear hg
      have hcell : wr.cell? ⟨b, i, none⟩ = some (.int .i64 (xs.getD i 0)) := by rw [(HR.out.fr HF.out (fun h => h)).cell, iv_get _ i hi]
      obtain ⟨f0, f1, f2⟩ := HN.out.at hi
      have HO := hid (fun W h => opn_any (N0 := N0) (N1 := N1) (d := d) (m := m) (xs.getD i 0) f1 f2 W h)
      have HC1 := hid (HC.out.fr HF.out (fun h => h) (fun h => h))
      clear f0 f1 f2 hi
      generalize hx : xs.getD i 0 = x at *
      have HX := hid hx
      clear hx
      cases hsb : shutB s l m x with
      | true =>
        rw [hsb] at HO
        have HSB := hid hsb
        clear hsb
        go_wp2_with fail
        refine (HO.out _ HC1.out).mono ?_
        rintro e w1 ⟨rfl, hf1⟩
        have HF1 := hid (HF.out.trans hf1)
        clear hf1
        go_wp2_with fail
        go_ret
        exact ⟨i, by have := HI.out; omega, HJ.out, HF1.out, Or.inr ⟨HI.out, by rw [HX.out]; exact HSB.out, rfl⟩⟩
      | false =>
        rw [hsb] at HO
        have HSB := hid hsb
        clear hsb
        go_wp2_with fail
        refine (HO.out _ HC1.out).mono ?_
        rintro e w1 ⟨rfl, hf1⟩
        have HF1 := hid (HF.out.trans hf1)
        clear hf1
        go_wp2_with fail
        go_roundg g
        case measure => omega
        case rel =>
          refine ⟨i + 1, by go_num, by have := HG.out; omega, fun j hj => ?_, HF1⟩
          rcases Nat.lt_or_ge j i with h | h
          · exact HJ.out j h
          · rw [show j = i by omega, HX.out]
            exact HSB.out

/-- Those that are not closed. -/
def openL (s l m : Int) (xs : List Int) : List Int := xs.filter fun x => !shutB s l m x
theorem openL_take {s l m : Int} {xs : List Int} {j : Nat} (h : j < xs.length) : openL s l m (xs.take (j + 1)) = if shutB s l m (xs.getD j 0) then openL s l m (xs.take j) else openL s l m (xs.take j) ++ [xs.getD j 0] := by
  have e : xs.take (j + 1) = xs.take j ++ [xs.getD j 0] := by
    rw [List.take_add_one]
    simp [List.getD, h]
  unfold openL
  rw [e, List.filter_append]
  generalize xs.getD j 0 = x
  cases hb : shutB s l m x <;> simp [hb]
theorem openL_none {s l m : Int} {xs : List Int} : ∀ k, k ≤ xs.length → (∀ j, j < k → shutB s l m (xs.getD j 0) = false) → openL s l m (xs.take k) = xs.take k := by
  intro k hk h
  apply List.filter_eq_self.2
  intro x hx
  obtain ⟨j, hj, rfl⟩ := List.getElem_of_mem hx
  rw [List.length_take] at hj
  have := h j (by omega)
  rw [List.getElem_take]
  simp only [List.getD, List.getElem?_eq_getElem (show j < xs.length by omega), Option.getD_some] at this
  simp [this]
theorem openL_len (s l m : Int) (xs : List Int) : (openL s l m xs).length ≤ xs.length := List.length_filter_le _ _

/-- What stands in the rounds of DeleteFunc: the first i cells hold what is open among the first j; from j on the row is as it was. -/
structure DI (w wx : World) (b N0 N1 : Nat) (s d l m : Int) (xs : List Int) (i j : Nat) : Prop where
  cl : CL wx N0 N1 s d l m
  fr : Fr w wx (fun k => k = b)
  row : ∃ R : List Value, RowV wx b R ∧ R.length = xs.length ∧ R.take i = iv (openL s l m (xs.take j)) ∧ ∀ q, j ≤ q → R[q]? = (iv xs)[q]?
  len : i = (openL s l m (xs.take j)).length
  lt : i < j
  le : j ≤ xs.length
theorem DI.cell {w wx : World} {b N0 N1 : Nat} {s d l m : Int} {xs : List Int} {i j : Nat} (h : DI w wx b N0 N1 s d l m xs i j) (hj : j < xs.length) : wx.cell? ⟨b, j, none⟩ = some (.int .i64 (xs.getD j 0)) := by
  obtain ⟨R, hr, hl, _, hq⟩ := h.row
  rw [hr.cell, hq j (Nat.le_refl _), iv_get _ j hj]
theorem DI.free {w wx : World} {b N0 N1 : Nat} {s d l m : Int} {xs : List Int} {i j : Nat} (h : DI w wx b N0 N1 s d l m xs i j) (o : Nat) : wx.frozen? ⟨b, o, none⟩ = false := by
  obtain ⟨R, hr, _⟩ := h.row
  exact hr.free o
theorem DI.there {w wx : World} {b N0 N1 : Nat} {s d l m : Int} {xs : List Int} {i j : Nat} (h : DI w wx b N0 N1 s d l m xs i j) {o : Nat} (ho : o < xs.length) : ∃ u, wx.cell? ⟨b, o, none⟩ = some u := by
  obtain ⟨R, hr, hl, _⟩ := h.row
  exact ⟨_, by rw [hr.cell]; exact List.getElem?_eq_getElem (by omega)⟩
theorem DI.call {w wx wy : World} {b N0 N1 : Nat} {s d l m : Int} {xs : List Int} {i j : Nat} (h : DI w wx b N0 N1 s d l m xs i j) (hf : Fr wx wy (fun _ => False)) : DI w wy b N0 N1 s d l m xs i j := by
  obtain ⟨R, hr, h2⟩ := h.row
  exact ⟨h.cl.fr hf (fun h => h) (fun h => h), h.fr.trans (hf.mono (fun _ _ h => h.elim)), ⟨R, hr.fr hf (fun h => h), h2⟩, h.len, h.lt, h.le⟩
theorem DI.skip {w wx : World} {b N0 N1 : Nat} {s d l m : Int} {xs : List Int} {i j : Nat} (h : DI w wx b N0 N1 s d l m xs i j) (hj : j < xs.length) (hs : shutB s l m (xs.getD j 0) = true) : DI w wx b N0 N1 s d l m xs i (j + 1) := by
  have e := openL_take (s := s) (l := l) (m := m) hj
  rw [hs, if_pos rfl] at e
  obtain ⟨R, hr, hl, ht, hq⟩ := h.row
  exact ⟨h.cl, h.fr, ⟨R, hr, hl, by rw [e]; exact ht, fun q hq' => hq q (by omega)⟩, by rw [e]; exact h.len, by have := h.lt; omega, by omega⟩
theorem DI.put {w wx : World} {b N0 N1 : Nat} {s d l m : Int} {xs : List Int} {i j : Nat} (h : DI w wx b N0 N1 s d l m xs i j) (hj : j < xs.length) (hs : shutB s l m (xs.getD j 0) = false) (h0 : N0 ≠ b) (h1 : N1 ≠ b) : DI w (wx.setCell ⟨b, i, none⟩ (.int .i64 (xs.getD j 0))) b N0 N1 s d l m xs (i + 1) (j + 1) := by
  have e := openL_take (s := s) (l := l) (m := m) hj
  rw [hs, if_neg (by decide)] at e
  have hlt := h.lt
  obtain ⟨R, hr, hl, ht, hq⟩ := h.row
  have hf : Fr wx (wx.setCell ⟨b, i, none⟩ (.int .i64 (xs.getD j 0))) (fun k => k = b) := (Fr.refl wx (fun k => k = b)).setCell (p := ⟨b, i, none⟩) (fun _ => rfl) _
  refine ⟨h.cl.fr hf h0 h1, h.fr.trans hf, ⟨R.set i (.int .i64 (xs.getD j 0)), hr.set i _, by rw [List.length_set]; exact hl, ?_, fun q hq' => ?_⟩, by rw [e, List.length_append, ← h.len]; rfl, by omega, by omega⟩
  · rw [e, iv_append, ← ht, List.take_add_one, List.take_set_of_le (Nat.le_refl _), List.getElem?_set_self (by omega)]
    rfl
  · rw [List.getElem?_set_ne (by omega)]
    exact hq q (by omega)

theorem RowV.sets {g : Nat} : ∀ (us : List Value) (o : Nat) {w : World} {vs : List Value}, RowV w g vs → ∃ vs', RowV (w.setCells g o us) g vs' ∧ vs'.length = vs.length ∧ vs'.take o = vs.take o
  | [], _, _, vs, h => ⟨vs, h, rfl, rfl⟩
  | u :: us, o, _, vs, h => by
    obtain ⟨vs', h1, h2, h3⟩ := RowV.sets us (o + 1) (h.set o u)
    refine ⟨vs', h1, by rw [h2, List.length_set], ?_⟩
    have e : vs'.take o = (vs'.take (o + 1)).take o := by rw [List.take_take]; congr 1; omega
    rw [e, h3, List.take_take, show min o (o + 1) = o by omega, List.take_set_of_le (Nat.le_refl _)]
theorem Fr.sets {g : Nat} {S : Nat → Prop} {a : World} (hg : g < a.heap.size → S g) : ∀ (us : List Value) (o : Nat) (w : World), Fr a w S → Fr a (w.setCells g o us) S
  | [], _, _, h => h
  | u :: us, o, _, h => Fr.sets hg us (o + 1) _ (h.setCell hg u)

theorem zero64 : ∀ w : World, (zeroValue 2).run Try.prog w = .ok (.int .i64 0) w := fun _ => by kernel_rfl

/-- The end: what is behind is cleared. -/
theorem DI.clear {w wx : World} {b N0 N1 : Nat} {s d l m : Int} {xs : List Int} {i : Nat} (h : DI w wx b N0 N1 s d l m xs i xs.length) (ty : TypeId) :
    (Builtin.clear_ #[43] ty #[.slice (some ⟨b, i, none⟩) (xs.length - i) (xs.length - i)]).run Try.prog wx = .ok (.tuple #[]) (wx.setCells b i (List.replicate (xs.length - i) (.int .i64 0))) := by
  have hlt := h.lt
  refine Lib.run_clear_slice wx 43 2 ty (.int .i64 0) Try.underlying43 zero64 rfl rfl b i (xs.length - i) _ (by omega) (fun j hj => ?_) (fun j _ => h.free _)
  obtain ⟨u, hu⟩ := h.there (o := i + j) (by omega)
  rw [hu]
  rfl
theorem DI.done {w wx : World} {b N0 N1 : Nat} {s d l m : Int} {xs : List Int} {i : Nat} (h : DI w wx b N0 N1 s d l m xs i xs.length) :
    ∃ rest, RowV (wx.setCells b i (List.replicate (xs.length - i) (.int .i64 0))) b (iv (openL s l m xs) ++ rest) ∧ rest.length + (openL s l m xs).length = xs.length ∧ Fr w (wx.setCells b i (List.replicate (xs.length - i) (.int .i64 0))) (fun k => k = b) ∧ i = (openL s l m xs).length := by
  obtain ⟨R, hr, hl, ht, _⟩ := h.row
  have hlen := h.len
  rw [List.take_length] at ht hlen
  obtain ⟨vs, h1, h2, h3⟩ := hr.sets (List.replicate (xs.length - i) (.int .i64 0)) i
  have hlt := h.lt
  refine ⟨vs.drop i, ?_, ?_, Fr.sets (S := fun k => k = b) (fun _ => rfl) _ _ _ h.fr, hlen⟩
  · rw [← ht, ← h3, List.take_append_drop]
    exact h1
  · rw [List.length_drop, h2, hl, ← hlen]
    omega
end Go.Proofs.Ytfmhdpenodmblaa
