/- Lists of numbers of the call's own: append, slices.Sort, slices.Compact. -/
import Derived.Test.YtimefcmemklhpaaEList
import Derived.Shelf.SortM.Plain
import Derived.Shelf.SortM.SortNone
import Derived.Ground.SlgmProg
import Derived.Shelf.SlicesE.Compact
import Derived.Ground.SlgnProg
namespace Go.Proofs.Ytimefcmemklhpaa.E
open Go.RowKit Go.Maps Go.Sort Go.Shelf

shelf_lay_g SlLaysM.n5 Slgm 5 at Try 55 as sortL
shelf_lay_g SlLaysE.n43 Slgn 43 at Try 68 as compactL

/-- Sorted. -/
def srt (l : List Int) : List Int := l.mergeSort (fun x y => decide (x ≤ y))
theorem srt_perm (l : List Int) : (srt l).Perm l := List.mergeSort_perm l _
theorem srt_len (l : List Int) : (srt l).length = l.length := (srt_perm l).length_eq
theorem mem_srt {l : List Int} {x : Int} : x ∈ srt l ↔ x ∈ l := (srt_perm l).mem_iff
theorem srt_le (l : List Int) : (srt l).Pairwise (· ≤ ·) := by
  have := List.pairwise_mergeSort (le := fun x y : Int => decide (x ≤ y)) (fun a b c h1 h2 => by simp only [decide_eq_true_eq] at *; omega) (fun a b => by simp only [Bool.or_eq_true, decide_eq_true_eq]; omega) l
  exact this.imp (fun h => by simpa using h)
theorem srt_of_perm {l l' : List Int} (h : l.Perm l') : srt l = srt l' := mergeSort_of_perm_i h

theorem sort_own {w : World} {base : Nat} {v : Value} {l : List Int} (h : OwI w base v l) (hlen : l.length < 4611686018427387904) :
    Calls Try.prog 55 #[v] w fun e w' => e = .returned (.tuple #[]) ∧ OwI w' base v (srt l) ∧ Fr w w' (fun k => v.ownBlock = some k) := by
  rcases h.2 with ⟨rfl, h0⟩ | ⟨g, cap, cur, rfl, hbase, hg, r1, r2, r3, r4⟩
  · have hl : l = [] := List.eq_nil_of_length_eq_zero h0
    subst hl
    refine (AnyM.slices_Sort_int_none sortL none 0 w).mono ?_
    rintro e w' ⟨rfl, rfl⟩
    exact ⟨rfl, by simpa [srt] using h, Fr.refl _ _⟩
  · have hH : Holds encZ w g 0 l.toArray := holds_of_block_i hg (by simpa [zv] using r4)
    refine (AnyM.slices_Sort_int sortL g 0 cap l w hH (lt_of_block hg) hlen).mono ?_
    rintro e w' ⟨rfl, n, os, rfl⟩
    refine ⟨rfl, ?_, (Fr.refl _ _).grown (grownBy_sorted_i _) (fun k _ hk => by cases hk; rfl)⟩
    have := ownsRow_sorted_i (n := n) (os := os) (ss := l) (ts := srt l) (srt_len l) hbase hg r1 r2 r3
    unfold OwI
    rw [srt_len]
    exact this

theorem comp_sorted {d : Array Int} (hs : ∀ i j, i ≤ j → j < d.size → d[i]! ≤ d[j]!) : ∀ m, m ≤ d.size → Ri (Lib.compactUpTo d m) ∧ (∀ x, x ∈ Lib.compactUpTo d m ↔ ∃ j, j < m ∧ d[j]! = x)
  | 0, _ => ⟨by simp [Lib.compactUpTo], by simp [Lib.compactUpTo]⟩
  | m + 1, hm => by
    obtain ⟨h1, h2⟩ := comp_sorted hs m (by omega)
    rw [Lib.compactUpTo_succ]
    by_cases hk : Lib.keeps d m = true
    · rw [if_pos hk]
      have hlt : ∀ x ∈ Lib.compactUpTo d m, x < d[m]! := by
        intro x hx
        obtain ⟨j, hj, rfl⟩ := (h2 x).1 hx
        have a1 := hs j (m - 1) (by omega) (by omega)
        have a2 := hs (m - 1) m (by omega) (by omega)
        have a3 : d[m]! ≠ d[m - 1]! := by
          have : m ≠ 0 := by omega
          simpa [Lib.keeps, this] using hk
        omega
      refine ⟨List.pairwise_append.2 ⟨h1, by simp, fun a ha b hb => by simp at hb; subst hb; exact hlt a ha⟩, fun x => ?_⟩
      rw [List.mem_append, h2 x]
      constructor
      · rintro (⟨j, hj, rfl⟩ | hx)
        · exact ⟨j, by omega, rfl⟩
        · simp at hx; exact ⟨m, by omega, hx.symm⟩
      · rintro ⟨j, hj, rfl⟩
        by_cases e : j = m
        · subst e; right; simp
        · left; exact ⟨j, by omega, rfl⟩
    · rw [if_neg hk, List.append_nil]
      refine ⟨h1, fun x => ?_⟩
      rw [h2 x]
      constructor
      · rintro ⟨j, hj, rfl⟩
        exact ⟨j, by omega, rfl⟩
      · rintro ⟨j, hj, rfl⟩
        by_cases e : j = m
        · subst e
          have h0 : j ≠ 0 := by
            rintro rfl
            exact hk (Lib.keeps_lt_one d 0 (by omega))
          have : d[j]! = d[j - 1]! := by
            simpa [Lib.keeps, h0] using hk
          exact ⟨j - 1, by omega, this.symm⟩
        · exact ⟨j, by omega, rfl⟩
theorem comp_up (l : List Int) : Lib.compactUpTo (srt l).toArray (srt l).toArray.size = up l := by
  have hs : ∀ i j, i ≤ j → j < (srt l).toArray.size → (srt l).toArray[i]! ≤ (srt l).toArray[j]! := by
    intro i j hij hj
    have hj' : j < (srt l).length := by simpa using hj
    by_cases e : i = j
    · subst e; exact Int.le_refl _
    · have := (List.pairwise_iff_getElem.1 (srt_le l)) i j (by omega) hj' (by omega)
      rw [getElem!_pos _ i (by simp; omega), getElem!_pos _ j (by simp; omega)]
      simpa using this
  obtain ⟨h1, h2⟩ := comp_sorted hs (srt l).toArray.size (Nat.le_refl _)
  refine ri_ext h1 (ri_up l) (fun x => ?_)
  rw [h2 x, mem_up, ← mem_srt]
  constructor
  · rintro ⟨j, hj, rfl⟩
    rw [getElem!_pos _ j hj]
    simp
  · intro hx
    obtain ⟨j, hj, rfl⟩ := List.mem_iff_getElem.1 hx
    exact ⟨j, by simpa using hj, by rw [getElem!_pos _ j (by simpa using hj)]; simp⟩
set_option maxHeartbeats 1000000 in
theorem compact_nil (w : World) : Calls Try.prog 68 #[.slice none 0 0] w fun e w' => e = .returned (.slice none 0 0) ∧ w' = w := by
  go_enter Try.func68, Try.ntmps68
  go_wp2_with fail
  go_ret
  exact ⟨rfl, rfl⟩
theorem zeroI (w : World) : (zeroValue 3).run Try.prog w = .ok (.int .i64 0) w := by kernel_rfl
theorem compact_own {w : World} {base : Nat} {v : Value} {l : List Int} (h : OwI w base v (srt l)) (hlen : l.length < 4611686018427387904) :
    Calls Try.prog 68 #[v] w fun e w' => ∃ v', e = .returned v' ∧ OwI w' base v' (up l) ∧ v'.ownBlock = v.ownBlock ∧ Fr w w' (fun k => v.ownBlock = some k) := by
  have hcl := comp_up l
  rcases h.2 with ⟨rfl, h0⟩ | ⟨g, cap, cur, rfl, hbase, hg, r1, r2, r3, r4⟩
  · rw [srt_len] at h0
    have hl : l = [] := List.eq_nil_of_length_eq_zero h0
    subst hl
    refine (compact_nil w).mono ?_
    rintro e w' ⟨rfl, rfl⟩
    exact ⟨_, rfl, by simpa [srt, up] using h, rfl, Fr.refl _ _⟩
  · have hH : Holds encZ w g 0 (srt l).toArray := holds_of_block_i hg (by simpa [zv] using r4)
    have hz : (srt l).toArray.size = (srt l).length := by simp
    have hc := AnyE.slices_Compact compactL (Value.int .i64) (fun _ => rfl) (EqlAt.intD _ _ .i64) (NeqAt.intD _ _ .i64) 0 zeroI g 0 cap (srt l).toArray w hH (by rw [hz, srt_len]; omega) (by rw [hz]; exact r1)
    rw [hcl, hz] at hc
    refine hc.mono ?_
    rintro e w' ⟨rfl, q, rfl⟩
    have hul : (up l).length ≤ (srt l).length := by
      rw [← hcl, hz]
      unfold Lib.compactUpTo
      rw [List.length_map]
      exact Nat.le_trans (List.length_filter_le _ _) (by simp)
    have hg1 : w.grownBy (putRow encZ (Sort.ahead w q) g 0 (up l ++ List.replicate ((srt l).length - (up l).length) 0).toArray) (some g) := by
      have := grownBy_sorted_i (w := w) (g := g) (n := q) (os := #[]) (up l ++ List.replicate ((srt l).length - (up l).length) 0).toArray
      rwa [grow_empty] at this
    refine ⟨_, rfl, ?_, rfl, (Fr.refl _ _).grown hg1 (fun k _ hk => by cases hk; rfl)⟩
    have hr := ownsRow_sorted_i (n := q) (os := #[]) (ss := srt l) (ts := up l ++ List.replicate ((srt l).length - (up l).length) 0) (by simp; omega) hbase hg r1 r2 r3
    rw [grow_empty] at hr
    rcases hr.2 with ⟨hv, _⟩ | ⟨g', cap', cur', hv, hb', hg', q1, q2, q3, q4⟩
    · cases hv
    · simp only [Value.slice.injEq, Option.some.injEq, Addr.mk.injEq, and_true, true_and] at hv
      obtain ⟨rfl, rfl⟩ := hv
      refine ⟨by simp [zv], Or.inr ⟨g, cap, cur', rfl, hb', hg', by omega, q2, q3, ?_⟩⟩
      have : (cur'.toList.take ((srt l).length * 1)).take ((up l).length * 1) = zv (up l) := by
        rw [q4]
        simp [zv]
      rw [List.take_take] at this
      rwa [Nat.min_eq_left (by omega)] at this

theorem infoI : (Try.prog.info? 3).map (fun i => (i.zero, i.size, i.bytes)) = some (some (.int .i64 0), 1, 8) := by kernel_rfl
theorem zv_one (l : List Int) : ∀ u ∈ zv l, u.oneCell' = true := by
  intro u hu
  simp only [zv, List.mem_map] at hu
  obtain ⟨c, _, rfl⟩ := hu
  rfl
/-- A list's cells, at a value. -/
def RdI (w : World) (u : Value) (l : List Int) : Prop := (u = .slice none 0 0 ∧ l = []) ∨ ∃ ad cap, u = .slice (some ad) l.length cap ∧ ∀ j z, (zv l)[j]? = some z → w.cell? (ad.add j) = some z
theorem OwI.rd {w : World} {base : Nat} {v : Value} {l : List Int} (h : OwI w base v l) : RdI w v l := by
  rcases h.2 with ⟨rfl, h0⟩ | ⟨g, cap, cur, rfl, r⟩
  · exact Or.inl ⟨rfl, List.eq_nil_of_length_eq_zero h0⟩
  · exact Or.inr ⟨⟨g, 0, none⟩, cap, rfl, World.ownsRow.cells h (g := g) rfl⟩
/-- append. -/
theorem app_run {w : World} {base : Nat} {v u : Value} {xs ys : List Int} (h : OwI w base v xs) (hu : RdI w u ys) (hl : xs.length + ys.length ≤ 4398046511104) (hb : base ≤ w.heap.size) (ty : TypeId) :
    ∃ v' w', (Builtin.append_ #[38, 38] ty #[v, u]).run Try.prog w = .ok v' w' ∧ OwI w' base v' (xs ++ ys) ∧ w.grownBy w' v.ownBlock ∧ (v'.ownBlock = v.ownBlock ∨ v'.ownBlock = some w.heap.size) := by
  obtain ⟨i0, hi0, hz0, hz1, hz2⟩ := info_parts infoI
  rcases hu with ⟨rfl, rfl⟩ | ⟨ad, cap, rfl, hc⟩
  · exact ⟨v, w, run_append_owned_none w base _ ty _ i0 1 Try.underlying38 hi0 v _ _ h, by rwa [List.append_nil], ⟨rfl, rfl, rfl, Nat.le_refl _, fun _ _ _ => rfl⟩, Or.inl rfl⟩
  · obtain ⟨v', w', hr, h2, h3, _, h5⟩ := run_append_own_at (P := Try.prog) w base 38 ty 3 i0 (.int .i64 0) 1 8 Try.underlying38 hi0 hz0 hz1 hz2 rfl (by decide) v _ _ h ad ys.length cap (zv ys) (by rw [zv_len, Nat.mul_one]) hc (zv_one ys) (by unfold maxLen; omega) (by omega) hb
    refine ⟨v', w', hr, ?_, h3, h5⟩
    unfold OwI
    rw [List.length_append, zv_app]
    exact h2
theorem wpl_app {w : World} {ops : Array Oper} {rest : List Oper} {o : Oper} {a : Act} {Q : Exit → Act → World → Prop} (hgd : o.guard = none) (s x : Operand)
    (ho : o.op = .call { callee := .builtin .append, args := #[s, x], argTypes := #[38, 38] })
    (base : Nat) (v u : Value) (xs ys : List Int) (hs : a.eval s = v) (hx : a.eval x = u) (h : OwI w base v xs) (hu : RdI w u ys) (hl : xs.length + ys.length ≤ 4398046511104) (hb : base ≤ w.heap.size)
    (hK : ∀ v' w', OwI w' base v' (xs ++ ys) → w.grownBy w' v.ownBlock → (v'.ownBlock = v.ownBlock ∨ v'.ownBlock = some w.heap.size) → wpList Try.prog ops Q rest (a.put o.dst v') w') :
    wpList Try.prog ops Q (o :: rest) a w := by
  refine wpList_plain hgd fun K hK' => ?_
  obtain ⟨v', w', hr, h2, h3, h4⟩ := app_run h hu hl hb o.type
  unfold Oper.wp execOp
  simp only [ho, resolve, invoke, builtin, Sem.run_bind, Sem.run_pure, Result.andThen_ok, List.map_toArray, List.map_cons, List.map_nil, hs, hx, hr]
  exact hK' _ _ (hK v' w' h2 h3 h4)
theorem wp_app {w : World} {o : Oper} {a : Act} {K : Act → World → Prop} {Q : Exit → Act → World → Prop} (s x : Operand)
    (ho : o.op = .call { callee := .builtin .append, args := #[s, x], argTypes := #[38, 38] })
    (base : Nat) (v u : Value) (xs ys : List Int) (hs : a.eval s = v) (hx : a.eval x = u) (h : OwI w base v xs) (hu : RdI w u ys) (hl : xs.length + ys.length ≤ 4398046511104) (hb : base ≤ w.heap.size)
    (hK : ∀ v' w', OwI w' base v' (xs ++ ys) → w.grownBy w' v.ownBlock → (v'.ownBlock = v.ownBlock ∨ v'.ownBlock = some w.heap.size) → K (a.put o.dst v') w') :
    o.wp Try.prog a w K Q := by
  obtain ⟨v', w', hr, h2, h3, h4⟩ := app_run h hu hl hb o.type
  unfold Oper.wp execOp
  simp only [ho, resolve, invoke, builtin, Sem.run_bind, Sem.run_pure, Result.andThen_ok, List.map_toArray, List.map_cons, List.map_nil, hs, hx, hr]
  exact hK v' w' h2 h3 h4
end Go.Proofs.Ytimefcmemklhpaa.E
