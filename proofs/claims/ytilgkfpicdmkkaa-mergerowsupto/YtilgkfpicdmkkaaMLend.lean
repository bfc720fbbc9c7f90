/- The laws' LendResponse: rows lent with marks behind them: a walk. -/
import Derived.Test.YtilgkfpicdmkkaaMOwn0
import Derived.Laws.AppendOwnNone
import Derived.Laws.CopyRow
import Derived.Deep.OwnRows
namespace Go.Proofs.Ytilgkfpicdmkkaa.M
open Go.RowKit

def zR : Rw := ⟨⟨0, ⟨#[]⟩, 0⟩, 0, 0, 0, 0⟩
/-- The row of a mark. -/
def mkR : Rw := ⟨⟨-9, ⟨#[109, 97, 114, 107]⟩, 9⟩, 0, 0, 0, 0⟩
/-- A row that was written over. -/
def spR : Rw := ⟨⟨0, ⟨#[115, 112, 111, 105, 108, 116]⟩, 0⟩, 0, 0, 0, 0⟩
/-- So many marks are laid. -/
def lentL (L : List Rw) (k : Nat) : List Rw := L ++ (List.replicate k mkR ++ List.replicate (3 - k) zR)
/-- Block g holds just these rows. -/
def Row7 (w : World) (g : Nat) (L : List Rw) : Prop := w.heap[g]? = some (.cells (rc L).toArray 54 (0, 0))
theorem Row7.lt {w : World} {g : Nat} {L : List Rw} (h : Row7 w g L) : g < w.heap.size := lt_of_block h
theorem Row7.fr {w w' : World} {S : Nat → Prop} {g : Nat} {L : List Rw} (h : Row7 w g L) (hf : Fr w w' S) (hS : ¬ S g) : Row7 w' g L := by
  unfold Row7
  rw [hf.block g h.lt hS]
  exact h
theorem Row7.free {w : World} {g : Nat} {L : List Rw} (h : Row7 w g L) (o : Nat) : w.frozen? ⟨g, o, none⟩ = false := by
  have h' : w.heap[g]? = some (.cells (rc L).toArray 54 (0, 0)) := h
  simp [World.frozen?, h']
theorem Row7.own {w : World} {base g c : Nat} {L : List Rw} (h : Row7 w g L) (hb : base ≤ g) (hc : L.length = c) (hm : c ≤ 1000000) : w.ownsRow base 54 7 (.slice (some ⟨g, 0, none⟩) L.length c) L.length (rc L) :=
  ⟨rc_length L, Or.inr ⟨g, c, _, rfl, hb, h, by omega, by unfold maxLen; omega, by simp [rc_length, hc], List.take_of_length_le (by simp [rc_length])⟩⟩
theorem Row7.front {w : World} {base g c : Nat} {L M : List Rw} (h : Row7 w g (L ++ M)) (hb : base ≤ g) (hc : (L ++ M).length = c) (hm : c ≤ 1000000) : w.ownsRow base 54 7 (.slice (some ⟨g, 0, none⟩) L.length c) L.length (rc L) :=
  ⟨rc_length L, Or.inr ⟨g, c, _, rfl, hb, h, by rw [← hc, List.length_append]; omega, by unfold maxLen; omega, by simp [rc_length, ← hc], by
    rw [rc_append]
    exact List.take_left' (rc_length L)⟩⟩
theorem Row7.el {w : World} {g : Nat} {L : List Rw} (h : Row7 w g L) (hm : L.length ≤ 1000000) {i : Nat} (hi : i < L.length) : M.W.ElAt w g (i * 7) (L[i]?.getD default) := own_el (h.own (base := 0) (Nat.zero_le _) rfl hm) i hi
theorem rc_set (L : List Rw) (i : Nat) (r : Rw) (hi : i < L.length) : rc (L.set i r) = (((((((rc L).set (i * 7) (cellR r 0)).set (i * 7 + 1) (cellR r 1)).set (i * 7 + 2) (cellR r 2)).set (i * 7 + 3) (cellR r 3)).set (i * 7 + 4) (cellR r 4)).set (i * 7 + 5) (cellR r 5)).set (i * 7 + 6) (cellR r 6) := by
  apply List.ext_getElem?
  intro j
  by_cases hj : j < L.length * 7
  · have e1 : j = j / 7 * 7 + j % 7 := by omega
    have hq : j / 7 < L.length := by omega
    have hm : j % 7 < 7 := by omega
    have hL := rc_get L (j / 7) (j % 7) hq hm
    have hS := rc_get (L.set i r) (j / 7) (j % 7) (by rw [List.length_set]; exact hq) hm
    rw [← e1] at hL hS
    rw [hS]
    simp only [List.getElem?_set, List.length_set, rc_length, hL]
    by_cases hqi : j / 7 = i
    · have e2 : j = i * 7 + j % 7 := by omega
      rw [hqi]
      simp only [hi, if_true, Option.getD_some]
      have hc : j % 7 = 0 ∨ j % 7 = 1 ∨ j % 7 = 2 ∨ j % 7 = 3 ∨ j % 7 = 4 ∨ j % 7 = 5 ∨ j % 7 = 6 := by omega
      rcases hc with h | h | h | h | h | h | h <;> rw [h] at e2 <;> rw [h] <;> simp [e2] <;> omega
    · have n0 : ∀ k, k < 7 → ¬ i * 7 + k = j := fun k hk e => hqi (by omega)
      have n00 : ¬ i * 7 = j := fun e => hqi (by omega)
      rw [if_neg (fun e => hqi e.symm)]
      simp [n0 1, n0 2, n0 3, n0 4, n0 5, n0 6, n00]
  · rw [List.getElem?_eq_none (by rw [rc_length, List.length_set]; omega), List.getElem?_eq_none (by simp [rc_length]; omega)]
theorem made7 (n : Nat) : madeCells (Value.agg #[.int .i64 0, .string ⟨#[]⟩, .int .i64 0, .int .i64 0, .int .i64 0, .int .i64 0, .int .i64 0]).cells (n * 7) = (rc (List.replicate n zR)).toArray := by
  apply Array.ext'
  apply List.ext_getElem
  · simp [madeCells, rc_length]
  · intro j h1 h2
    have hj : j < n * 7 := by simpa [madeCells] using h1
    have e1 : j = j / 7 * 7 + j % 7 := by omega
    have hq : j / 7 < n := by omega
    have hm : j % 7 < 7 := by omega
    have hL := rc_get (List.replicate n zR) (j / 7) (j % 7) (by rw [List.length_replicate]; exact hq) hm
    rw [← e1] at hL
    have e3 : (List.replicate n zR)[j / 7]?.getD default = zR := by simp [hq]
    rw [e3] at hL
    have hR : (rc (List.replicate n zR)).toArray.toList[j] = cellR zR (j % 7) := by
      have := List.getElem_eq_iff (l := rc (List.replicate n zR)) (i := j) (h := by simpa using h2) (x := cellR zR (j % 7))
      exact this.2 hL
    rw [hR]
    have hc : j % 7 = 0 ∨ j % 7 = 1 ∨ j % 7 = 2 ∨ j % 7 = 3 ∨ j % 7 = 4 ∨ j % 7 = 5 ∨ j % 7 = 6 := by omega
    have hcs : (Value.agg #[.int .i64 0, .string ⟨#[]⟩, .int .i64 0, .int .i64 0, .int .i64 0, .int .i64 0, .int .i64 0]).cells = #[.int .i64 0, .string ⟨#[]⟩, .int .i64 0, .int .i64 0, .int .i64 0, .int .i64 0, .int .i64 0] := rfl
    simp only [madeCells, Array.toList_map, List.getElem_map, Array.toList_range, List.getElem_range, hcs]
    rcases hc with h | h | h | h | h | h | h <;> simp [h] <;> rfl
theorem run_make7 (W : World) (n : Nat) (hn : n ≤ 1000) : (Instr.makeSlice 22 (.int .i64 ((n : Int) + 3)) (.int .i64 ((n : Int) + 3))).run Try.prog W = .ok (.slice (some ⟨W.heap.size, 0, none⟩) (n + 3) (n + 3)) (W.alloc (.cells (rc (List.replicate (n + 3) zR)).toArray 54)) := by
  obtain ⟨i0, hi, hz0, hz1, hz2⟩ := M.W.infoP M.W.Try.info_r7
  have hr := run_make (P := Try.prog) W 22 54 i0 _ Try.underlying22 hi hz0 .i64 .i64 ((n : Int) + 3) ((n : Int) + 3) (by omega) (Int.le_refl _) (by rw [hz2]; omega) (by omega)
  rw [hz1, show ((n : Int) + 3).toNat = n + 3 by omega] at hr
  rw [← made7]
  exact hr
theorem run_copy7 (w : World) (ty : TypeId) (g dLen dCap : Nat) (a : Addr) (sLen sCap : Nat) (cur : Array Value) (cs : List Value) (hg : w.heap[g]? = some (.cells cur 54 (0, 0))) (hn : cs.length = Nat.min sLen dLen * 7)
    (hsrc : ∀ j v, cs[j]? = some v → w.cell? (a.add j) = some v) (hfit : cs.length ≤ cur.size) (h1 : ∀ v ∈ cs, v.oneCell' = true) :
    (Builtin.copy_ #[22, 22] ty #[.slice (some ⟨g, 0, none⟩) dLen dCap, .slice (some a) sLen sCap]).run Try.prog w =
      .ok (goInt (Nat.min sLen dLen)) (w.setRow g (cs ++ cur.toList.drop cs.length).toArray) := by
  obtain ⟨i, hq, _, hi, _⟩ := M.W.infoP M.W.Try.info_r7
  have hl := run_loadCells_list (P := Try.prog) w a cs hsrc
  have hst := run_storeCells_at Try.prog g 0 54 cs 0 cur w hg (by simpa using hfit) h1
  simp [Builtin.copy_, run_underlying Try.underlying22, Builtin.lenOf, Builtin.firstCells, sizeOf, typeInfo, hq, hi, ← hn, hl, hst]
theorem run_copy7n (w : World) (ty : TypeId) (d a : Option Addr) (dLen dCap sCap : Nat) :
    (Builtin.copy_ #[22, 22] ty #[.slice d dLen dCap, .slice a 0 sCap]).run Try.prog w = .ok (goInt 0) w := by
  obtain ⟨i, hq, _, hi, _⟩ := M.W.infoP M.W.Try.info_r7
  have hl : ∀ (x : Addr), (loadCells x 0).run Try.prog w = .ok #[] w := fun x => by simpa using run_loadCells_list (P := Try.prog) w x [] (by simp)
  cases d <;> cases a <;> simp [Builtin.copy_, run_underlying Try.underlying22, Builtin.lenOf, Builtin.firstCells, sizeOf, typeInfo, hq, storeCells, hl]
theorem wpl_copy7 {W : World} {ops : Array Oper} {rest : List Oper} {o : Oper} {a : Act} {Q : Exit → Act → World → Prop} (hgd : o.guard = none) (d s : Operand)
    (ho : o.op = .call { callee := .builtin .copy, args := #[d, s], argTypes := #[22, 22] }) (g : Nat) (L : List Rw) (v : Value) (hd : a.eval d = .slice (some ⟨g, 0, none⟩) (L.length + 3) (L.length + 3)) (hs : a.eval s = v) (hv : RdR W v L) (hg : Row7 W g (List.replicate (L.length + 3) zR))
    (h : ∀ W', Row7 W' g (lentL L 0) → Fr W W' (fun b => b = g) → wpList Try.prog ops Q rest (a.put o.dst (goInt L.length)) W') : wpList Try.prog ops Q (o :: rest) a W := by
  obtain ⟨ao, cap, rfl, hl, hel⟩ := hv
  have hmin : Nat.min L.length (L.length + 3) = L.length := Nat.min_eq_left (by omega)
  by_cases h0 : L.length = 0
  · have hL : L = [] := List.eq_nil_of_length_eq_zero h0
    subst hL
    have hr : (Builtin.copy_ #[22, 22] o.type #[.slice (some ⟨g, 0, none⟩) (([] : List Rw).length + 3) (([] : List Rw).length + 3), .slice ao ([] : List Rw).length cap]).run Try.prog W = .ok (goInt 0) W := run_copy7n W o.type (some ⟨g, 0, none⟩) ao (([] : List Rw).length + 3) (([] : List Rw).length + 3) cap
    refine wpList_plain hgd fun K hK => ?_
    have hh := hK _ _ (h W hg (Fr.refl W _))
    unfold Oper.wp
    simp only [execOp, ho, resolve, invoke, builtin, Sem.run_bind, Sem.run_pure, Result.andThen_ok, List.map_toArray, List.map_cons, List.map_nil, hd, hs]
    rw [hr]
    exact hh
  · obtain ⟨b, off, rfl, hE⟩ := hel (by omega)
    have hr := run_copy7 W o.type g (L.length + 3) (L.length + 3) ⟨b, off, none⟩ L.length cap (rc (List.replicate (L.length + 3) zR)).toArray (rc L) hg (by rw [hmin, rc_length]) (fun j z hz => by
      have hj : j < L.length * 7 := by
        rcases Nat.lt_or_ge j (L.length * 7) with h | h
        · exact h
        · rw [List.getElem?_eq_none (by rw [rc_length]; exact h)] at hz
          cases hz
      have hq : j / 7 < L.length := by omega
      have e1 : j = j / 7 * 7 + j % 7 := by omega
      have e2 := rc_get L (j / 7) (j % 7) hq (by omega)
      rw [← e1] at e2
      rw [e2] at hz
      have e3 := el_cell (hE (j / 7) hq) (j % 7) (by omega)
      rw [Addr.add_lit, ← hz, ← e3]
      rw [show off + j = off + j / 7 * 7 + j % 7 by omega]) (by rw [List.size_toArray, rc_length, rc_length, List.length_replicate]; omega) (rc_one L)
    rw [hmin] at hr
    refine wpList_plain hgd fun K hK => ?_
    unfold Oper.wp
    simp only [execOp, ho, resolve, invoke, builtin, Sem.run_bind, Sem.run_pure, Result.andThen_ok, List.map_toArray, List.map_cons, List.map_nil, hd, hs]
    rw [hr]
    refine hK _ _ (h _ ?_ ⟨rfl, rfl, rfl, by simp [World.setRow], fun k hk hn => setRow_other W g k _ (fun e => hn e)⟩)
    unfold Row7 lentL
    rw [setRow_heap W g _ _ 54 _ hg, List.replicate_zero, List.nil_append]
    have e5 : List.replicate (L.length + 3) zR = List.replicate L.length zR ++ List.replicate 3 zR := by rw [List.replicate_append_replicate]
    have e6 : rc L ++ List.drop (rc L).length (rc (List.replicate (L.length + 3) zR)) = rc (L ++ List.replicate 3 zR) := by
      rw [e5, rc_append, rc_append, List.drop_left' (by rw [rc_length, rc_length, List.length_replicate])]
    show some (Obj.cells (rc L ++ List.drop (rc L).length (rc (List.replicate (L.length + 3) zR))).toArray _ _) = _
    rw [e6]
theorem mark_any (w : World) : Calls Try.prog 25 #[] w fun e w' => e = .returned (.agg #[.int .i64 (-9), .string ⟨#[109, 97, 114, 107]⟩, .int .i64 9]) ∧ Fr w w' (fun _ => False) := by
  go_enter Try.func25, Try.ntmps25
  go_wp2_with fail
  refine bodyPost_ret (v := .agg #[.int .i64 (-9), .string ⟨#[109, 97, 114, 107]⟩, .int .i64 9]) (by simp [results, Try.results25, go_sem]) rfl ⟨rfl, ?_⟩
  repeat (first | with_reducible exact Fr.refl _ _ | with_reducible apply Fr.alloc | (with_reducible refine Fr.setCell ?_ ?_ _; rotate_left; (intro h; exact absurd h (Nat.lt_irrefl _))))
/-- A response with these rows and nothing else, as a value, and its cells. -/
def rs11 (v : Value) : Array Value := #[.int .i64 0, .int .i64 0, .int .i64 0, .int .i64 0, v, .int .i64 0, .int .i64 0, .int .i64 0, .int .i64 0, .int .i64 0, .int .i64 0]
theorem lentL_len (L : List Rw) (k : Nat) (hk : k ≤ 3) : (lentL L k).length = L.length + 3 := by
  unfold lentL
  simp
  omega
theorem lentL_at (L : List Rw) (k : Nat) (hk : k < 3) : (lentL L k)[L.length + k]?.getD default = zR := by
  unfold lentL
  rw [List.getElem?_append_right (by omega), List.getElem?_append_right (by simp), List.length_replicate, show L.length + k - L.length - k = 0 by omega, List.getElem?_replicate, if_pos (by omega)]
  rfl
theorem lentL_step (L : List Rw) (k : Nat) (hk : k < 3) : (lentL L k).set (L.length + k) mkR = lentL L (k + 1) := by
  unfold lentL
  rw [List.set_append_right _ _ (by omega), List.set_append_right _ _ (by simp), show 3 - k = (3 - (k + 1)) + 1 by omega, List.replicate_succ]
  simp [List.replicate_succ']
/-- A mark laid into a row of zeros. -/
theorem Row7.mark {w : World} {g : Nat} {L : List Rw} {i : Nat} (h : Row7 w g L) (hi : i < L.length) (hz : L[i]?.getD default = zR) : Row7 (((w.setCell ⟨g, i * 7, none⟩ (.int .i64 (-9))).setCell ⟨g, i * 7 + 1, none⟩ (.string ⟨#[109, 97, 114, 107]⟩)).setCell ⟨g, i * 7 + 2, none⟩ (.int .i64 9)) g (L.set i mkR) := by
  unfold Row7 at *
  rw [heap_setCell_same _ g _ _ _ _ (heap_setCell_same _ g _ _ _ _ (heap_setCell_same w g _ _ _ _ h))]
  congr 2
  apply Array.ext'
  simp only [Array.toList_setIfInBounds]
  rw [rc_set L i mkR hi]
  apply List.ext_getElem?
  intro j
  have hk : ∀ k, k < 7 → (rc L)[i * 7 + k]? = some (cellR zR k) := fun k hk => by rw [rc_get L i k hi hk, hz]
  have hlen := rc_length L
  simp only [List.getElem?_set, List.length_set]
  have e3 := hk 3 (by decide)
  have e4 := hk 4 (by decide)
  have e5 := hk 5 (by decide)
  have e6 := hk 6 (by decide)
  have hb : i * 7 + 6 < (rc L).length := by rw [hlen]; omega
  by_cases h6 : i * 7 + 6 = j
  · subst h6
    rw [if_neg (by omega), if_neg (by omega), if_neg (by omega), e6, if_pos rfl, if_pos (by omega)]
    rfl
  by_cases h5 : i * 7 + 5 = j
  · subst h5
    rw [if_neg (by omega), if_neg (by omega), if_neg (by omega), e5, if_neg (by omega), if_pos rfl, if_pos (by omega)]
    rfl
  by_cases h4 : i * 7 + 4 = j
  · subst h4
    rw [if_neg (by omega), if_neg (by omega), if_neg (by omega), e4, if_neg (by omega), if_neg (by omega), if_pos rfl, if_pos (by omega)]
    rfl
  by_cases h3 : i * 7 + 3 = j
  · subst h3
    rw [if_neg (by omega), if_neg (by omega), if_neg (by omega), e3, if_neg (by omega), if_neg (by omega), if_neg (by omega), if_pos rfl, if_pos (by omega)]
    rfl
  rw [if_neg h6, if_neg h5, if_neg h4, if_neg h3]
  rfl
end Go.Proofs.Ytilgkfpicdmkkaa.M
