/- flow.ring: move, add: walks. -/
import Derived.Test.YtlgbciibhmcokaaXRingRM
import Derived.Laws.CopyRow
import Derived.Deep.RegionLaw
namespace Go.Proofs.Ytlgbciibhmcokaa.RM
open Go.RowKit

theorem el_one (x : Ms) : ∀ u ∈ elM x, u.oneCell' = true := elM_one x
theorem Try.info_el : (Try.prog.info? 85).map (fun i => (i.zero, i.size, i.bytes)) = some (some (.agg #[.int .i64 0, .bool false, .string ⟨#[]⟩, .int .i64 0, .int .i64 0]), 5, 48) := by kernel_rfl
theorem made_el (n : Nat) : madeCells (Value.agg #[.int .i64 0, .bool false, .string ⟨#[]⟩, .int .i64 0, .int .i64 0]).cells (n * 5) = (fl elM (List.replicate n ms0)).toArray := by
  have hcs : (Value.agg #[.int .i64 0, .bool false, .string ⟨#[]⟩, .int .i64 0, .int .i64 0]).cells = #[.int .i64 0, .bool false, .string ⟨#[]⟩, .int .i64 0, .int .i64 0] := rfl
  apply Array.ext'
  apply List.ext_getElem?
  intro j
  by_cases hj : j < n * 5
  · have e1 : j = j / 5 * 5 + j % 5 := by omega
    have h2 := fl_at elM_len (L := List.replicate n ms0) (i := j / 5) (by rw [List.length_replicate]; omega) ms0 (j := j % 5) (by omega) []
    rw [List.append_nil, ← e1] at h2
    have e3 : (List.replicate n ms0).getD (j / 5) ms0 = ms0 := by simp [List.getD, show j / 5 < n by omega]
    rw [List.toList_toArray, h2, e3]
    have hc : j % 5 = 0 ∨ j % 5 = 1 ∨ j % 5 = 2 ∨ j % 5 = 3 ∨ j % 5 = 4 := by omega
    simp only [madeCells, Array.toList_map, hcs, Array.toList_range, List.getElem?_map]
    rw [List.getElem?_eq_getElem (by simpa using hj)]
    rcases hc with h | h | h | h | h <;> simp [h] <;> rfl
  · rw [List.getElem?_eq_none (by simp [madeCells]; omega), List.getElem?_eq_none (by rw [List.toList_toArray, fl_length elM_len, List.length_replicate]; omega)]
theorem run_make_el (W : World) (n : Nat) (hn : n ≤ 65536) : (Instr.makeSlice 65 (.int .i64 (n : Int)) (.int .i64 (n : Int))).run Try.prog W = .ok (.slice (some ⟨W.heap.size, 0, none⟩) n n) (W.alloc (.cells (fl elM (List.replicate n ms0)).toArray 85)) := by
  obtain ⟨i0, hi, hz0, hz1, hz2⟩ : ∃ i, Try.prog.info? 85 = some i ∧ i.zero = some (.agg #[.int .i64 0, .bool false, .string ⟨#[]⟩, .int .i64 0, .int .i64 0]) ∧ i.size = 5 ∧ i.bytes = 48 := by
    have h := Try.info_el
    cases hq : Try.prog.info? 85 with
    | none => rw [hq] at h; simp at h
    | some i => rw [hq] at h; simp at h; exact ⟨i, rfl, h.1, h.2.1, h.2.2⟩
  have hr := run_make (P := Try.prog) W 65 85 i0 _ Try.underlying65 hi hz0 .i64 .i64 (n : Int) (n : Int) (by omega) (Int.le_refl _) (by rw [hz2]; omega) (by omega)
  rw [hz1, Int.toNat_natCast] at hr
  rw [← made_el]
  exact hr
theorem size_el : (Try.prog.info? 85).map (·.size) = some 5 := by
  have h := Try.info_el
  cases hq : Try.prog.info? 85 with
  | none => rw [hq] at h; simp at h
  | some i => rw [hq] at h; simp at h; simp [h.2.1]
theorem run_copy_el (w : World) (ty : TypeId) (g o dLen dCap : Nat) (a : Addr) (sLen sCap : Nat) (cur : Array Value) (cs : List Value) (hg : w.heap[g]? = some (.cells cur 85 (0, 0))) (hn : cs.length = Nat.min sLen dLen * 5)
    (hsrc : ∀ j v, cs[j]? = some v → w.cell? (a.add j) = some v) (hfit : o + cs.length ≤ cur.size) (h1 : ∀ v ∈ cs, v.oneCell' = true) :
    (Builtin.copy_ #[65, 65] ty #[.slice (some ⟨g, o, none⟩) dLen dCap, .slice (some a) sLen sCap]).run Try.prog w =
      .ok (goInt (Nat.min sLen dLen)) (w.setRow g (cur.toList.take o ++ cs ++ cur.toList.drop (o + cs.length)).toArray) := by
  have hz := size_el
  have hl := run_loadCells_list (P := Try.prog) w a cs hsrc
  have hst := run_storeCells_at Try.prog g o 85 cs 0 cur w hg (by simpa using hfit) h1
  cases hq : Try.prog.info? 85 with
  | none => rw [hq] at hz; simp at hz
  | some i =>
    have hi : i.size = 5 := by rw [hq] at hz; simpa using hz
    simp [Builtin.copy_, run_underlying Try.underlying65, Builtin.lenOf, Builtin.firstCells, sizeOf, typeInfo, hq, hi, ← hn, hl, hst]
theorem run_copy_el0 (w : World) (ty : TypeId) (d a : Option Addr) (dLen dCap sCap : Nat) :
    (Builtin.copy_ #[65, 65] ty #[.slice d dLen dCap, .slice a 0 sCap]).run Try.prog w = .ok (goInt 0) w := by
  have hz := size_el
  have hl : ∀ (x : Addr), (loadCells x 0).run Try.prog w = .ok #[] w := fun x => by simpa using run_loadCells_list (P := Try.prog) w x [] (by simp)
  cases hq : Try.prog.info? 85 with
  | none => rw [hq] at hz; simp at hz
  | some i => cases d <;> cases a <;> simp [Builtin.copy_, run_underlying Try.underlying65, Builtin.lenOf, Builtin.firstCells, sizeOf, typeInfo, hq, storeCells, hl]
/-- copy as one step of a region that draws: m records into a row from record i on. -/
theorem step_copy {w : World} {ops : Array Oper} {o : Oper} {a : Act} {K : Act → World → Prop} {Q : Exit → Act → World → Prop} {E : Prop} (hgd : o.guard = none) (d s : Operand)
    (ho : o.op = .call { callee := .builtin .copy, args := #[d, s], argTypes := #[65, 65] }) {G i : Nat} {M xs : List Ms} {dLen dCap sCap m : Nat} {sp : Option Addr} (hd : a.eval d = .slice (some ⟨G, i * 5, none⟩) dLen dCap) (hs : a.eval s = .slice sp m sCap) (hm : xs.length = m) (hmd : m ≤ dLen) (hsrc : 0 < m → ∃ ad, sp = some ad ∧ ∀ j v, (fl elM xs)[j]? = some v → w.cell? (ad.add j) = some v) (hM : Row elM 85 w G M []) (hfit : i + m ≤ M.length)
    (h : ∀ w', Hid (Row elM 85 w' G (M.take i ++ (xs ++ M.drop (i + m))) []) → Fr w w' (fun k => k = G) → K (a.put o.dst (.int .i64 (m : Int))) w') :
    if Region.wanted o (yielded ops a.tmps) = true then Oper.wp Try.prog o a w K Q else E := by
  have hw : Region.wanted o (yielded ops a.tmps) = true := by simp [Region.wanted, hgd]
  rw [if_pos hw]
  by_cases h0 : m = 0
  · subst h0
    obtain rfl : xs = [] := List.eq_nil_of_length_eq_zero hm
    have hrun := run_copy_el0 w o.type (some ⟨G, i * 5, none⟩) sp dLen dCap sCap
    unfold Oper.wp
    simp only [execOp, ho, resolve, invoke, builtin, Sem.run_bind, Sem.run_pure, Result.andThen_ok, List.map_toArray, List.map_cons, List.map_nil, hd, hs]
    rw [hrun]
    refine h w ?_ (Fr.refl _ _)
    show Row _ _ _ _ _ _
    rw [List.nil_append, Nat.add_zero, List.take_append_drop]
    exact hM
  · obtain ⟨ad, rfl, hc⟩ := hsrc (by omega)
    have hmin : Nat.min m dLen = m := Nat.min_eq_left hmd
    have hl : (fl elM xs).length = m * 5 := by rw [fl_length el_len, hm]
    have hMl : (fl elM M).length = M.length * 5 := fl_length el_len M
    have h00 : w.heap[G]? = some (.cells (fl elM M ++ []).toArray 85 (0, 0)) := hM
    rw [List.append_nil] at h00
    have hrun := run_copy_el w o.type G (i * 5) dLen dCap ad m sCap (fl elM M).toArray (fl elM xs) h00 (by rw [hmin]; exact hl) hc (by simp only [List.size_toArray]; omega) (fl_one el_one xs)
    rw [hmin] at hrun
    unfold Oper.wp
    simp only [execOp, ho, resolve, invoke, builtin, Sem.run_bind, Sem.run_pure, Result.andThen_ok, List.map_toArray, List.map_cons, List.map_nil, hd, hs]
    rw [hrun]
    refine h _ ?_ ⟨rfl, rfl, rfl, by simp [World.setRow], fun k hk hn => setRow_other w G k _ (fun e => hn e)⟩
    show Row _ _ _ _ _ _
    unfold Row
    rw [setRow_heap w G _ _ 85 _ h00, fl_append, fl_append, List.append_nil]
    have e1 : (fl elM M).take (i * 5) = fl elM (M.take i) := by
      have h5 : fl elM M = fl elM (M.take i) ++ fl elM (M.drop i) := by rw [← fl_append, List.take_append_drop]
      rw [h5]
      exact List.take_left' (by rw [fl_length el_len, List.length_take, Nat.min_eq_left (by omega)])
    have e2 : (fl elM M).drop (i * 5 + m * 5) = fl elM (M.drop (i + m)) := by
      have h5 : fl elM M = fl elM (M.take (i + m)) ++ fl elM (M.drop (i + m)) := by rw [← fl_append, List.take_append_drop]
      conv => lhs; rw [h5]
      exact List.drop_left' (by rw [fl_length el_len, List.length_take, Nat.min_eq_left (by omega)]; omega)
    rw [hl, e1, e2, List.append_assoc]
/-- A row's records, from one on, as cells. -/
theorem row_src {w : World} {g : Nat} {R : List Ms} {rest : List Value} (h : Row elM 85 w g R rest) (i m : Nat) (him : i + m ≤ R.length) : ∀ j v, (fl elM ((R.drop i).take m))[j]? = some v → w.cell? ((⟨g, i * 5, none⟩ : Addr).add j) = some v := by
  intro j v hj
  have e : R = R.take i ++ ((R.drop i).take m ++ R.drop (i + m)) := by
    have h1 : (R.drop i).take m ++ R.drop (i + m) = R.drop i := by
      rw [← List.drop_drop, List.take_append_drop]
    rw [h1, List.take_append_drop]
  have hl : (fl elM (R.take i)).length = i * 5 := by rw [fl_length el_len, List.length_take, Nat.min_eq_left (by omega)]
  have hj2 : j < (fl elM ((R.drop i).take m)).length := by
    rcases Nat.lt_or_ge j (fl elM ((R.drop i).take m)).length with h | h
    · exact h
    · rw [List.getElem?_eq_none h] at hj; cases hj
  rw [Addr.add_lit, cell_of_row w g _ _ _ (0, 0) h]
  have e2 : fl elM R = fl elM (R.take i) ++ (fl elM ((R.drop i).take m) ++ fl elM (R.drop (i + m))) := by
    conv => lhs; rw [e]
    rw [fl_append, fl_append]
  rw [e2]
  simp only [List.getElem?_toArray]
  rw [List.append_assoc, List.getElem?_append_right (by omega), hl, show i * 5 + j - i * 5 = j by omega, List.append_assoc, List.getElem?_append_left hj2]
  exact hj
end Go.Proofs.Ytlgbciibhmcokaa.RM
