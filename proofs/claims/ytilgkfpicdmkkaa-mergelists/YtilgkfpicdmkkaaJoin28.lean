/- Texts of one proof, joined. -/
import Derived.Test.YtilgkfpicdmkkaaJoin27
import Derived.Test.YtilgkfpicdmkkaaJoin26
import Derived.Test.YtilgkfpicdmkkaaJoin18
import Derived.Deep.DeepCutAuto
import Derived.Deep.RegionLaw
import Derived.Deep.RegionHeld3
section
/- MergeLists: texts merge as the numbers do; numbers that fit as arguments. Written by wip/gen/genmlists.py. -/
namespace Go.Proofs.Ytilgkfpicdmkkaa.M
open Go.RowKit

/-- Numbers that can be read, each an int. -/
def RdF (w : World) (v : Value) (L : List Int) : Prop := RdI w v L ∧ ∀ x ∈ L, Fit x
theorem ltE_wd {x y : Int} (hx : Fit x) (hy : Fit y) : T.ltE (wd x) (wd y) = I.ltE x y := by
  unfold T.ltE I.ltE
  rw [wd_cb hx hy]
  congr 1
  rw [cmpI_lt]
theorem ded_wd : ∀ (l out : List Int), (∀ x ∈ l, Fit x) → (∀ x ∈ out, Fit x) → (l.map wd).foldl T.dd (out.map wd) = (l.foldl I.dd out).map wd
  | [], out, _, _ => rfl
  | x :: l, out, hl, ho => by
    have hx : Fit x := hl x (by simp)
    have e : T.dd (out.map wd) (wd x) = (I.dd out x).map wd := by
      unfold T.dd I.dd
      by_cases h0 : out = []
      · subst h0
        simp
      · have hm : out.getLast?.getD default ∈ out := by
          rw [List.getLast?_eq_some_getLast h0]
          exact List.getLast_mem h0
        have e1 : (out.map wd).getLast?.getD default = wd (out.getLast?.getD default) := by
          rw [List.getLast?_map, List.getLast?_eq_some_getLast h0]
          rfl
        rw [e1, ltE_wd (ho _ hm) hx]
        by_cases hc : I.ltE (out.getLast?.getD default) x = true
        · rw [if_pos (Or.inr hc), if_pos (Or.inr hc), List.map_append]
          rfl
        · rw [if_neg (by rintro (h | h); exact h0 (List.map_eq_nil_iff.1 h); exact hc h), if_neg (by rintro (h | h); exact h0 h; exact hc h)]
    rw [List.map_cons, List.foldl_cons, List.foldl_cons, e]
    refine ded_wd l _ (fun y hy => hl y (List.mem_cons_of_mem _ hy)) (fun y hy => ?_)
    unfold I.dd at hy
    split at hy
    · rw [List.mem_append, List.mem_singleton] at hy
      rcases hy with hy | rfl
      · exact ho y hy
      · exact hx
    · exact ho y hy
theorem merged_wd {ls : List (List Int)} (hs : ∀ l ∈ ls, l.Pairwise (fun a b => a ≤ b)) (hf : ∀ l ∈ ls, ∀ x ∈ l, Fit x) : merged T.cmE (ls.map (fun l => l.map wd)) = (merged I.cmE ls).map wd := by
  have hp := merged_perm I.cmE_cm ls
  have hm : ∀ x ∈ merged I.cmE ls, Fit x := fun x hx => by
    obtain ⟨l, hl, hx2⟩ := List.mem_flatten.1 (hp.mem_iff.1 hx)
    exact hf l hl x hx2
  refine merged_one T.cmE_cm _ _ (fun l hl => ?_) ?_ ?_ (fun a ha b hb e => nums8_inj (cb_zero _ _ e))
  · obtain ⟨l', hl', rfl⟩ := List.mem_map.1 hl
    rw [List.pairwise_map]
    refine List.Pairwise.imp_of_mem (fun {a b} ha hb hab => ?_) (hs l' hl')
    show cb _ _ ≤ 0
    rw [wd_cb (hf l' hl' a ha) (hf l' hl' b hb), cmpI_le]
    exact hab
  · rw [← List.map_flatten]
    exact hp.map wd
  · rw [List.pairwise_map]
    refine List.Pairwise.imp_of_mem (fun {a b} ha hb hab => ?_) (srt_cm hs)
    show cb _ _ ≤ 0
    rw [wd_cb (hm a ha) (hm b hb), cmpI_le]
    exact hab
theorem told_wd {ls : List (List Int)} (hs : ∀ l ∈ ls, l.Pairwise (fun a b => a ≤ b)) (hf : ∀ l ∈ ls, ∀ x ∈ l, Fit x) : T.ded (merged T.cmE (ls.map (fun l => l.map wd))) = (I.ded (merged I.cmE ls)).map wd := by
  rw [merged_wd hs hf]
  refine ded_wd _ [] (fun x hx => ?_) (fun x hx => by simp at hx)
  obtain ⟨l, hl, hx2⟩ := List.mem_flatten.1 ((merged_perm I.cmE_cm ls).mem_iff.1 hx)
  exact hf l hl x hx2
/-- An append of numbers, as a step of a region that draws. -/
theorem step_ai {V wb : World} {ops : Array Oper} {o : Oper} {a : Act} {K : Act → World → Prop} {Q : Exit → Act → World → Prop} {E : Prop} (hgd : o.guard = none) (sl x : Operand)
    (ho : o.op = .call { callee := .builtin .append, args := #[sl, x], argTypes := #[36, 36] }) (v : Value) (l : List Int) (hs : a.eval sl = v) (hb : I.Eo wb V v l) (u : Value) (ys : List Int) (hx : a.eval x = u) (hu : RzI V u ys) (hn : l.length + ys.length ≤ 1000000000)
    (h : ∀ v' w', I.Eo wb w' v' (l ++ ys) → V.grownBy w' v.ownBlock → K (a.put o.dst v') w') : if Region.wanted o (yielded ops a.tmps) = true then Oper.wp Try.prog o a V K Q else E := by
  have hw : Region.wanted o (yielded ops a.tmps) = true := by simp [Region.wanted, hgd]
  rw [if_pos hw]
  obtain ⟨i0, hi, hz0, hz1, hz2⟩ := M.W.infoP I.Try.info_elI
  rcases hu with ⟨rfl, rfl⟩ | ⟨b, off, c, rfl, hel⟩
  · have hrun := run_append_owned_none (P := Try.prog) (w := V) wb.heap.size 36 o.type 3 i0 1 Try.underlying36 hi v l.length (I.iv l) hb.1
    unfold Oper.wp
    simp [execOp, ho, resolve, invoke, builtin, hs, hx, hrun, Result.andThen]
    exact h v V (by rw [List.append_nil]; exact hb) ⟨rfl, rfl, rfl, Nat.le_refl _, fun _ _ _ => rfl⟩
  · refine I.wp_append_own_at V sl x 36 ho wb.heap.size 3 i0 _ 1 8 Try.underlying36 hi hz0 hz1 hz2 rfl (by decide) v l.length (I.iv l) hs hb.1 ⟨b, off, none⟩ ys.length c (I.iv ys) hx (by rw [I.iv_length, Nat.mul_one]) ?_ (by intro u hu; simp [I.iv] at hu; obtain ⟨z, _, rfl⟩ := hu; rfl) (by unfold maxLen; omega) (by omega) hb.2.size ?_
    · intro j z hz
      have hj : j < ys.length := by
        rcases Nat.lt_or_ge j ys.length with h | h
        · exact h
        · rw [List.getElem?_eq_none (by rw [I.iv_length]; exact h)] at hz
          cases hz
      have e2 : (I.iv ys)[j]? = some (.int .i64 (ys[j]?.getD default)) := by simp [I.iv, hj]
      rw [e2] at hz
      rw [Addr.add_lit, ← hz]
      exact hel j hj
    · intro v' w' hown hgr hat
      refine h v' w' ⟨?_, hb.2.grown hgr (fun k hk e => by have := hb.1.lt k e; omega)⟩ hgr
      rw [I.iv_append, List.length_append]
      exact hown
theorem RzI.step {w w' : World} {u : Value} {ys : List Int} (h : RzI w u ys) (hf : Fr w w' (fun _ => False)) : RzI w' u ys := by
  rcases h with h | ⟨b, o, c, e, hc⟩
  · exact Or.inl h
  · exact Or.inr ⟨b, o, c, e, fun i hi => ci_fr (hc i hi) hf⟩
/-- A made slice without elements, with room. -/
theorem made_room (V : World) (n : Nat) (h : n ≤ 1000000) : I.Eo V (V.alloc (.cells (madeCells #[Value.int .i64 0] n) 3)) (.slice (some ⟨V.heap.size, 0, none⟩) 0 n) [] := by
  refine ⟨?_, alloc_fr V _ _⟩
  have h1 := World.ownsRow_lit (size := 1) (e := 3) V (madeCells #[Value.int .i64 0] n) n (Nat.le_refl _) (by unfold maxLen; omega) (by simp [madeCells])
  refine ⟨rfl, Or.inr ⟨V.heap.size, n, _, rfl, Nat.le_refl _, heap_last V _ _ rfl, Nat.zero_le _, by unfold maxLen; omega, by simp [madeCells], rfl⟩⟩
theorem made_room2 (V : World) (n : Nat) (h : n ≤ 1000000) : I.Eo V ((V.alloc (.cells #[.int .i64 (-88)] 3)).alloc (.cells (madeCells #[Value.int .i64 0] n) 3)) (.slice (some ⟨V.heap.size + 1, 0, none⟩) 0 n) [] := by
  have h1 := made_room (V.alloc (.cells #[.int .i64 (-88)] 3)) n h
  rw [show (V.alloc (.cells #[.int .i64 (-88)] 3)).heap.size = V.heap.size + 1 by simp] at h1
  exact Eo.behind h1 (alloc_fr V _ _)
theorem lit_a (V : World) (o : Obj) : ((V.alloc (.cells #[.int .i64 (-88)] 3)).alloc o).heap[V.heap.size]? = some (.cells #[.int .i64 (-88)] 3 (0, 0)) := by
  rw [Below.heap_alloc _ _ _ (by simp)]
  exact heap_last V _ _ rfl
theorem lit_b (V : World) (o : Obj) : ((V.alloc o).alloc (.cells #[.int .i64 (-88)] 3)).heap[V.heap.size + 1]? = some (.cells #[.int .i64 (-88)] 3 (0, 0)) := heap_last _ _ _ (by simp)
theorem lit_kept {W W7 : World} {N : Nat} {v : Value} (hg : W.grownBy W7 v.ownBlock) (hc : W.heap[N]? = some (.cells #[.int .i64 (-88)] 3 (0, 0))) (hne : v.ownBlock ≠ some N) : W7.cell? ⟨N, 0, none⟩ = some (.int .i64 (-88)) :=
  cell_of_one ((hg.block N (lt_of_block hc) (fun e => hne e.symm)).trans hc)
theorem ob_ne {N M n c : Nat} (h : N ≠ M) : (Value.slice (some ⟨N, 0, none⟩) n c).ownBlock ≠ some M := fun e => h (by simpa [Value.ownBlock] using e)
theorem rz_lit {W : World} {N : Nat} (h : W.cell? ⟨N, 0, none⟩ = some (.int .i64 (-88))) : RzI W (.slice (some ⟨N, 0, none⟩) 1 1) [-88] := Or.inr ⟨N, 0, 1, rfl, fun i hi => by
  have : i = 0 := by simp at hi; exact hi
  subst this
  exact h⟩
theorem ded_totlen' (ls : List (List Int)) : (I.ded (merged I.cmE ls)).length ≤ tot ls := by
  have := I.ded_len (merged I.cmE ls)
  rw [merged_len I.cmE_cm] at this
  exact this
theorem run_make_room (W : World) (n : Nat) (hn : n ≤ 200) : (Instr.makeSlice 36 (.int .i64 0) (.int .i64 ((n : Int) + 3))).run Try.prog W = .ok (.slice (some ⟨W.heap.size, 0, none⟩) 0 (n + 3)) (W.alloc (.cells (madeCells #[Value.int .i64 0] (n + 3)) 3)) := by
  obtain ⟨i0, hi, hz0, hz1, hz2⟩ := M.W.infoP Try.info_int
  have hr := run_make (P := Try.prog) W 36 3 i0 (.int .i64 0) Try.underlying36 hi hz0 .i64 .i64 0 ((n : Int) + 3) (by omega) (by omega) (by rw [hz2]; omega) (by omega)
  simp only [Int.toNat_zero, hz1, Nat.mul_one, show ((n : Int) + 3).toNat = n + 3 by omega] at hr
  exact hr
/-- Slices of texts in a row of one's own, each with what it holds. -/
structure SpS (w W : World) (v : Value) (us : List Value) (ls : List (List ByteArray)) : Prop where
  own : W.ownsRow w.heap.size 42 1 v us.length us
  len : us.length = ls.length
  each : ∀ p (hp : p < us.length) (hq : p < ls.length), W.ownsRow w.heap.size 9 1 us[p] ls[p].length (T.iv ls[p])
  fr : Fr w W (fun _ => False)
theorem SpS.step {w W W' : World} {v : Value} {us : List Value} {ls : List (List ByteArray)} (h : SpS w W v us ls) (hf : Fr W W' (fun _ => False)) : SpS w W' v us ls :=
  ⟨own_fr h.own hf (fun _ _ h => h), h.len, fun p hp hq => own_fr (h.each p hp hq) hf (fun _ _ h => h), h.fr.trans hf⟩
theorem SpS.nil (w W : World) (hf : Fr w W (fun _ => False)) : SpS w W (.slice none 0 0) [] [] := ⟨⟨rfl, Or.inl ⟨rfl, rfl⟩⟩, rfl, fun p hp => by simp at hp, hf⟩
theorem SpS.snoc {w W W2 : World} {v v' u : Value} {us : List Value} {ls : List (List ByteArray)} {l : List ByteArray} (h : SpS w W v us ls) (hu : W.ownsRow w.heap.size 9 1 u l.length (T.iv l))
    (hown : W2.ownsRow w.heap.size 42 1 v' (us.length + 1) (us ++ [u])) (hg : W.grownBy W2 v.ownBlock) : SpS w W2 v' (us ++ [u]) (ls ++ [l]) := by
  have hk : ∀ {x : Value} {n : Nat} {xs : List Value}, W.ownsRow w.heap.size 9 1 x n xs → W2.ownsRow w.heap.size 9 1 x n xs := fun {x n xs} hx => by
    refine ⟨hx.1, ?_⟩
    rcases hx.2 with h2 | ⟨g, cap, cur, hv, hb, hg2, rest⟩
    · exact Or.inl h2
    · exact Or.inr ⟨g, cap, cur, hv, hb, (hg.block g (lt_of_block hg2) (fun e => own_ne h.own hg2 (by decide) e.symm)).trans hg2, rest⟩
  refine ⟨by rw [List.length_append]; exact hown, by simp [h.len], fun p hp hq => ?_, h.fr.grown hg (fun k hk e => by have := (h.own.lt k e).1; omega)⟩
  by_cases hlt : p < us.length
  · rw [List.getElem_append_left hlt, List.getElem_append_left (by rw [← h.len]; exact hlt)]
    exact hk (h.each p hlt (by rw [← h.len]; exact hlt))
  · have e1 : p = us.length := by simp at hp; omega
    have e2 : p = ls.length := by rw [e1, h.len]
    have a1 : (us ++ [u])[p] = u := by subst e1; simp
    have a2 : (ls ++ [l])[p] = l := by subst e2; simp
    rw [a1, a2]
    exact hk hu
/-- Where a slice lies. -/
def svS : Value → T.Sv
  | .slice (some a) _ c => ⟨a.block, 0, c⟩
  | _ => ⟨0, 0, 0⟩
theorem SpS.at {w W : World} {v : Value} {us : List Value} {ls : List (List ByteArray)} (h : SpS w W v us ls) (hl : ls.length ≤ 900000) : ∃ sv, T.LsAt W sv ls v := by
  obtain ⟨ao, cap, hv⟩ := own_nil_shape h.own
  refine ⟨fun p => svS (us.getD p (.slice none 0 0)), ao, cap, by rw [← h.len]; exact hv, by omega, fun p => ?_, fun hpos => ?_⟩
  · by_cases hp : p < us.length
    · have hq : p < ls.length := by rw [← h.len]; exact hp
      have he := h.each p hp hq
      have e1 : us.getD p (.slice none 0 0) = us[p] := by simp [List.getD, hp]
      have e2 : T.gl ls p = ls[p] := by simp [T.gl, hq]
      simp only [e1, e2]
      rcases he.2 with ⟨e3, e4⟩ | ⟨g, c, cur, e3, hb, hg, hn, hm, _⟩
      · rw [e3]
        unfold svS
        dsimp only
        exact ⟨by omega, by omega, fun j hj => by omega⟩
      · rw [e3]
        unfold svS
        dsimp only
        unfold maxLen at hm
        refine ⟨hn, by omega, fun j hj => ?_⟩
        have hc := he.cells (g := g) (by rw [e3]; rfl) j (.string (ls[p][j]?.getD default)) (by simp [T.iv, hj])
        rw [Addr.add_lit, Nat.zero_add] at hc
        rw [show 0 + 1 * j = j by omega]
        exact hc
    · have e1 : us.getD p (.slice none 0 0) = .slice none 0 0 := by simp [List.getD, hp]
      have e2 : T.gl ls p = [] := by
        have : ¬ p < ls.length := by rw [← h.len]; exact hp
        simp [T.gl, this]
      simp only [e1, e2]
      unfold svS
      dsimp only
      exact ⟨by simp, by omega, fun j hj => by simp at hj⟩
  · rcases h.own.2 with ⟨_, h'⟩ | ⟨G, c0, cur, e3, hb, hg, _⟩
    · have := h.len; omega
    · rw [hv] at e3
      simp only [Value.slice.injEq] at e3
      obtain ⟨e4, _, _⟩ := e3
      refine ⟨G, 0, e4, fun p hp => ?_⟩
      have hpu : p < us.length := by rw [h.len]; exact hp
      have he := h.each p hpu hp
      have hc := h.own.cells (g := G) (by rw [hv, e4]; rfl) p us[p] (by simp [hpu])
      rw [Addr.add_lit, Nat.zero_add] at hc
      rw [Nat.zero_add]
      have e1 : us.getD p (.slice none 0 0) = us[p] := by simp [List.getD, hpu]
      have e2 : T.gl ls p = ls[p] := by simp [T.gl, hp]
      obtain ⟨a, c, e5⟩ := own_nil_shape he
      rw [e2]
      refine ⟨a, c, by rw [hc, e5], fun hne => ?_⟩
      unfold T.slv
      simp only [e1, e2]
      rcases he.2 with ⟨_, e4⟩ | ⟨g, c', cur, e6, _⟩
      · exact absurd (List.eq_nil_of_length_eq_zero e4) hne
      · rw [e6] at e5
        simp only [Value.slice.injEq] at e5
        obtain ⟨e7, _, e8⟩ := e5
        rw [e6, ← e7, ← e8]
        simp [svS]

theorem own_cut9 {w : World} {base : Nat} {X : List Int} {v : Value} (h : w.ownsRow base 3 1 v (X ++ [-88]).length (I.iv (X ++ [-88]))) : ∃ g c, v = .slice (some ⟨g, 0, none⟩) (X.length + 1) c ∧ X.length + 1 ≤ c ∧ c ≤ 9223372036854775807 ∧ w.ownsRow base 3 1 (.slice (some ⟨g, 0, none⟩) X.length c) X.length (I.iv X) := by
  have hl := h.1
  rcases h.2 with ⟨_, h0⟩ | ⟨g, cap, cur, rfl, hb, hg, hn, hm, hcs, htake⟩
  · simp at h0
  · have hm' := hm
    unfold maxLen at hm'
    rw [List.length_append] at hn htake
    have hn' : X.length + 1 ≤ cap := hn
    refine ⟨g, cap, by rw [List.length_append]; rfl, hn', by omega, by rw [I.iv_length, Nat.mul_one], Or.inr ⟨g, cap, cur, rfl, hb, hg, by omega, hm, hcs, ?_⟩⟩
    have h5 := congrArg (List.take X.length) htake
    rw [List.take_take, Nat.mul_one, Nat.min_eq_left (by simp), I.iv_append, List.take_left' (by rw [I.iv_length])] at h5
    rw [Nat.mul_one]
    exact h5
theorem at_end {w : World} {base : Nat} {X : List Int} {g c n : Nat} (h : w.ownsRow base 3 1 (.slice (some ⟨g, 0, none⟩) n c) (X ++ [-88]).length (I.iv (X ++ [-88]))) : w.cell? ⟨g, X.length, none⟩ = some (.int .i64 (-88)) := by
  have hc := h.cells (g := g) rfl X.length (.int .i64 (-88)) (by rw [I.iv_append, List.getElem?_append_right (by rw [I.iv_length]; exact Nat.le_refl _), I.iv_length, Nat.sub_self]; rfl)
  rw [Addr.add_lit, Nat.zero_add] at hc
  exact hc
theorem lits_own (V : World) (us : List Value) (h : us.length ≤ 1000) : (V.alloc (.cells us.toArray 42)).ownsRow V.heap.size 42 1 (.slice (some ⟨V.heap.size, 0, none⟩) us.length us.length) us.length us := by
  have := World.ownsRow_lit (size := 1) (e := 42) V us.toArray us.length (Nat.le_refl _) (by unfold maxLen; omega) (by simp)
  simpa using this
/-- Lists of three lists of numbers that lie here and there. -/
theorem lists3u {b : Nat} {V U : World} {u1 u2 u3 : Value} {l1 l2 l3 : List Int} (hb : b ≤ V.heap.size) (h1 : V.ownsRow b 3 1 u1 l1.length (I.iv l1)) (h2 : V.ownsRow b 3 1 u2 l2.length (I.iv l2)) (h3 : V.ownsRow b 3 1 u3 l3.length (I.iv l3)) (ht : tot [l1, l2, l3] ≤ 1000000) (hu : Fr (V.alloc (.cells #[u1, u2, u3] 36)) U (fun _ => False)) {w : World} (hw : w.heap.size = b) (hf : Fr w V (fun _ => False)) :
    Calls Try.prog 16 #[.slice (some ⟨V.heap.size, 0, none⟩) 3 3] U fun e w' => ∃ v, e = .returned v ∧ I.Eo V w' v (I.ded (merged I.cmE [l1, l2, l3])) := by
  subst hw
  have hs : SpJ w (V.alloc (.cells #[u1, u2, u3] 36)) (.slice (some ⟨V.heap.size, 0, none⟩) 3 3) [u1, u2, u3] [l1, l2, l3] := ⟨own_mono (liti_own V [u1, u2, u3] (by simp)) hf.size, rfl, fun p hp hq => by
    match p, hp with
    | 0, _ => exact own_fr h1 (alloc_fr V _ (fun _ => False)) (fun _ _ h => h)
    | 1, _ => exact own_fr h2 (alloc_fr V _ (fun _ => False)) (fun _ _ h => h)
    | 2, _ => exact own_fr h3 (alloc_fr V _ (fun _ => False)) (fun _ _ h => h), hf.alloc _⟩
  obtain ⟨sv, hat⟩ := (hs.step hu).at (by simp)
  refine (I.lists_any _ hat (by omega)).mono ?_
  rintro e w' ⟨v, rfl, hr⟩
  exact ⟨v, rfl, Eo.behind hr ((alloc_fr V _ _).trans hu)⟩
theorem TEo.behind {w V U : World} {v : Value} {l : List ByteArray} (h : T.Eo V U v l) (hf : Fr w V (fun _ => False)) : T.Eo w U v l := ⟨own_mono h.1 hf.size, hf.trans h.2⟩
theorem lists3t {w V U : World} {u1 u2 u3 : Value} {l1 l2 l3 : List ByteArray} (h1 : T.Eo w V u1 l1) (h2 : T.Eo w V u2 l2) (h3 : T.Eo w V u3 l3) (ht : tot [l1, l2, l3] ≤ 1000000) (hu : Fr (V.alloc (.cells #[u1, u2, u3] 42)) U (fun _ => False)) :
    Calls Try.prog 18 #[.slice (some ⟨V.heap.size, 0, none⟩) 3 3] U fun e w' => ∃ v, e = .returned v ∧ T.Eo V w' v (T.ded (merged T.cmE [l1, l2, l3])) := by
  have hs : SpS w (V.alloc (.cells #[u1, u2, u3] 42)) (.slice (some ⟨V.heap.size, 0, none⟩) 3 3) [u1, u2, u3] [l1, l2, l3] := ⟨own_mono (lits_own V [u1, u2, u3] (by simp)) h1.2.size, rfl, fun p hp hq => by
    match p, hp with
    | 0, _ => exact own_fr h1.1 (alloc_fr V _ (fun _ => False)) (fun _ _ h => h)
    | 1, _ => exact own_fr h2.1 (alloc_fr V _ (fun _ => False)) (fun _ _ h => h)
    | 2, _ => exact own_fr h3.1 (alloc_fr V _ (fun _ => False)) (fun _ _ h => h), h1.2.alloc _⟩
  obtain ⟨sv, hat⟩ := (hs.step hu).at (by simp)
  refine (T.lists_any _ hat (by omega)).mono ?_
  rintro e w' ⟨v, rfl, hr⟩
  exact ⟨v, rfl, TEo.behind hr ((alloc_fr V _ _).trans hu)⟩
theorem lists0 (W : World) : Calls Try.prog 16 #[.slice none 0 0] W fun e w' => ∃ a c, e = .returned (.slice a 0 c) ∧ Fr W w' (fun _ => False) := by
  have hat : I.LsAt W (fun _ => ⟨0, 0, 0⟩) [] (.slice none 0 0) := ⟨none, 0, rfl, by simp, fun p => ⟨by simp [I.gl], by simp, fun j hj => by simp [I.gl] at hj⟩, fun h => by simp at h⟩
  refine (I.lists_any W hat (by simp [tot])).mono ?_
  rintro e w' ⟨v, rfl, hr⟩
  obtain ⟨a, c, rfl⟩ := I.Eo.shape hr
  have e0 : (I.ded (merged I.cmE [])).length = 0 := by
    have := ded_totlen' []
    simp [tot] at this
    rw [this]
    rfl
  exact ⟨a, c, by rw [e0], hr.2⟩
end Go.Proofs.Ytilgkfpicdmkkaa.M
end

section
/- Arguments that came in: numbers, each an int. Written by wip/gen/genmlaw.py. -/
namespace Go.Proofs.Ytilgkfpicdmkkaa.M
open Go.ChangeShapes Go.WideShapes Go.ChangeAt Go.RowKit

theorem fit_wf {x : Int} (h : (Lit.int .i64 x).wf = true) : Fit x := by
  unfold Lit.wf at h
  simp [IntKind.min, IntKind.max, IntKind.signed, IntKind.bits] at h
  unfold Fit
  omega
set_option maxRecDepth 100000 in
theorem fint_of_trod {H : Type} {enc : TypeId × Value → H} {w : World} {base : Nat} {held : Bool} {fuel : Nat} {a : Addr} {cs : List Value} {x : DataW H × List MemPlace} (hc : w.cells? base a 1 = some cs) (h : DataW.trod enc Try.prog w base (fun _ => true) held fuel 3 cs = some x) :
    ∃ r : Int, ∃ b o, a = ⟨b, o, none⟩ ∧ w.cell? ⟨b, o, none⟩ = some (.int .i64 r) ∧ Fit r := by
  obtain ⟨n0, e0, _, w0⟩ := DataW.trod_int Try.underlying3 h
  obtain ⟨_, hl5, hcell⟩ := World.cells?_some hc
  subst e0
  have h0 := hcell 0 (by omega)
  obtain ⟨b, o, rfl⟩ := addr_plain (h0.trans rfl)
  rw [Addr.add_lit] at h0
  exact ⟨n0, b, o, rfl, h0, fit_wf w0⟩
set_option maxRecDepth 100000 in
theorem fints_of_trod {H : Type} {enc : TypeId × Value → H} {w : World} {base : Nat} {held : Bool} {fuel : Nat} {c : Value} {x : DataW H × List MemPlace} (h : DataW.trod enc Try.prog w base (fun _ => true) held fuel 36 [c] = some x) :
    ∃ L : List Int, RdF w c L := by
  rcases Go.Deep.open_slice Try.underlying36 h with ⟨hcs, _⟩ | ⟨a, len, cap, m, n, D, Pl, hcs, _, hl, hm, hmm, hx, hV⟩
  · simp at hcs
    subst hcs
    exact ⟨[], ⟨none, 0, rfl, by simp, fun h => by simp at h⟩, fun x hx => by simp at hx⟩
  · simp at hcs
    subst hcs
    simp only [if_true] at hmm
    rw [Try.ck_int] at hV
    obtain ⟨F, hF⟩ := Go.Deep.choose_lt (α := Int) (p := fun i s => ∃ b o, a.add (i * 1) = ⟨b, o, none⟩ ∧ w.cell? ⟨b, o, none⟩ = some (.int .i64 s) ∧ Fit s) (n := len) (fun i hi => by
      obtain ⟨cs', h1, h2⟩ := hV i (by omega)
      exact fint_of_trod h1 h2)
    have hl2 : ((List.range len).map F).length = len := by simp
    unfold maxLen at hm
    refine ⟨(List.range len).map F, ⟨some a, cap, by rw [hl2], by rw [hl2]; omega, fun hpos => ?_⟩, fun x hx => ?_⟩
    rotate_left
    · obtain ⟨i, hi, rfl⟩ := List.mem_map.1 hx
      obtain ⟨_, _, _, _, h4⟩ := hF i (List.mem_range.1 hi)
      exact h4
    rw [hl2] at hpos
    obtain ⟨b, o, e1, h1, _⟩ := hF 0 hpos
    have ha : ∃ b o, a = ⟨b, o, none⟩ := by
      obtain ⟨ab, ao, asp⟩ := a
      rw [Nat.zero_mul] at e1
      have := congrArg Addr.spot e1
      simp [Addr.add] at this
      cases asp with
      | none => exact ⟨ab, ao, rfl⟩
      | some z => simp at this
    obtain ⟨b', o', rfl⟩ := ha
    refine ⟨b', o', rfl, fun i hi => ?_⟩
    rw [hl2] at hi
    obtain ⟨b2, o2, e2, h2, _⟩ := hF i hi
    rw [Addr.add_lit, Nat.mul_one] at e2
    simp only [Addr.mk.injEq, and_true] at e2
    obtain ⟨rfl, rfl⟩ := e2
    simpa [hi] using h2
end Go.Proofs.Ytilgkfpicdmkkaa.M
end

section
/- MergeLists: a walk. Written by wip/gen/genmlists.py. -/
namespace Go.Proofs.Ytilgkfpicdmkkaa.M
open Go.RowKit

set_option maxHeartbeats 8000000 in
set_option maxRecDepth 100000 in
theorem lists_walk {A B C : List Int} {va vb vc : Value} (w : World) (ha : RdF w va A) (hb : RdF w vb B) (hc : RdF w vc C) :
    Calls Try.prog 4 #[va, vb, vc] w fun r w' => r = .returned (.bool true) ∧ Fr w w' (fun _ => False) := by
  have HA := hid ha
  have HB := hid hb
  have HC := hid hc
  obtain ⟨⟨aa, ca, rfl, _⟩, _⟩ := ha
  obtain ⟨⟨ab, cb', rfl, _⟩, _⟩ := hb
  obtain ⟨⟨ac, cc, rfl, _⟩, _⟩ := hc
  generalize hla : A.length = la at *
  generalize hlb : B.length = lb at *
  generalize hlc : C.length = lc at *
  clear hla hlb hlc
  go_enter Try.func4, Try.ntmps4
  go_wp2_with fail
  refine (known_any _).mono ?_
  rintro r wk ⟨rfl, hf⟩
  have HFk := hid hf
  clear hf
  go_wp2_with fail
  refine (rising_mem _ (HA.out.1.step HFk.out)).mono ?_
  rintro r w1 ⟨u1, rfl, X, h1, hxl, hxs, hxm⟩
  have H1 := hid (Eo.behind h1 HFk.out)
  have HXs := hid hxs
  have HXf : Hid (∀ x ∈ X, Fit x) := fun x hx => HA.out.2 x (hxm x hx)
  clear h1 hxs hxm
  go_wp2_with fail
  refine (rising_mem _ (HB.out.1.step H1.out.2)).mono ?_
  rintro r w2 ⟨u2, rfl, Y, h2, hyl, hys, hym⟩
  have H2 := hid (Eo.behind h2 H1.out.2)
  have H1b := hid (I.Eo.fr H1.out h2.2)
  have HYs := hid hys
  have HYf : Hid (∀ x ∈ Y, Fit x) := fun x hx => HB.out.2 x (hym x hx)
  clear h2 hys hym H1
  go_wp2_with fail
  refine (rising_mem _ (HC.out.1.step H2.out.2)).mono ?_
  rintro r w3 ⟨u3, rfl, Z, h3, hzl, hzs, hzm⟩
  have H3 := hid (Eo.behind h3 H2.out.2)
  have H1c := hid (I.Eo.fr H1b.out h3.2)
  have H2c := hid (I.Eo.fr H2.out h3.2)
  have HZs := hid hzs
  have HZf : Hid (∀ x ∈ Z, Fit x) := fun x hx => HC.out.2 x (hzm x hx)
  clear h3 hzs hzm H1b H2 HA HB HC HFk
  obtain ⟨a1, c1, e1⟩ := I.Eo.shape H1c.out
  obtain ⟨a2, c2, e2⟩ := I.Eo.shape H2c.out
  obtain ⟨a3, c3, e3⟩ := I.Eo.shape H3.out
  subst e1 e2 e3
  have HSp : Hid (SpJ w (w3.alloc (.cells #[.slice a1 X.length c1, .slice a2 Y.length c2, .slice a3 Z.length c3] 36)) (.slice (some ⟨w3.heap.size, 0, none⟩) 3 3) [.slice a1 X.length c1, .slice a2 Y.length c2, .slice a3 Z.length c3] [X, Y, Z]) :=
    ⟨own_mono (liti_own w3 [.slice a1 X.length c1, .slice a2 Y.length c2, .slice a3 Z.length c3] (by simp)) H3.out.2.size, rfl, fun p hp hq => by
      match p, hp with
      | 0, _ => exact own_fr H1c.out.1 (alloc_fr w3 _ (fun _ => False)) (fun _ _ h => h)
      | 1, _ => exact own_fr H2c.out.1 (alloc_fr w3 _ (fun _ => False)) (fun _ _ h => h)
      | 2, _ => exact own_fr H3.out.1 (alloc_fr w3 _ (fun _ => False)) (fun _ _ h => h), H3.out.2.alloc _⟩
  have HSrt : Hid (∀ l ∈ [X, Y, Z], l.Pairwise (fun a b => a ≤ b)) := fun l hl => by
    simp at hl
    rcases hl with rfl | rfl | rfl
    · exact HXs.out
    · exact HYs.out
    · exact HZs.out
  have HFit : Hid (∀ l ∈ [X, Y, Z], ∀ x ∈ l, Fit x) := fun l hl => by
    simp at hl
    rcases hl with rfl | rfl | rfl
    · exact HXf.out
    · exact HYf.out
    · exact HZf.out
  have HTot : Hid (tot [X, Y, Z] ≤ 600) := by show _ ≤ _; simp [tot]; omega
  clear H1c H2c H3 HXs HYs HZs HXf HYf HZf
  go_wp2_with fail
  generalize hN : w3.heap.size = N at *
  generalize w3.alloc (.cells #[.slice a1 X.length c1, .slice a2 Y.length c2, .slice a3 Z.length c3] 36) = V0 at *
  clear hN
  obtain ⟨sv0, hat0⟩ := HSp.out.at (by simp)
  refine (rlists_any V0 hat0 (by have := HTot.out; omega) HSrt.out).mono ?_
  rintro r V ⟨u8, rfl, h8⟩
  have HSv := hid (HSp.out.step h8.2)
  have HQ := hid (Eo.behind h8 HSp.out.fr)
  clear hat0 HSp h8
  have HTd := hid (told_wd HSrt.out HFit.out)
  have HQl := hid (ded_totlen' [X, Y, Z])
  have HQf : Hid (∀ x ∈ I.ded (merged I.cmE [X, Y, Z]), Fit x) := fun x hx => by
    rcases ded_mem _ [] hx with h | h
    · simp at h
    · obtain ⟨l, hl, hx2⟩ := List.mem_flatten.1 ((merged_perm I.cmE_cm [X, Y, Z]).mem_iff.1 h)
      exact HFit.out l hl x hx2
  generalize hQ : I.ded (merged I.cmE [X, Y, Z]) = Q at *
  have HQe := hid hQ
  clear hQ
  obtain ⟨a8, c8, e8⟩ := I.Eo.shape HQ.out
  subst e8
  have hq600 : Q.length ≤ 600 := by have := HQl.out; have := HTot.out; omega
  have hc0 := HSv.out.own.cells (g := N) rfl 0 _ rfl
  have hc1 := HSv.out.own.cells (g := N) rfl 1 _ rfl
  have hc2 := HSv.out.own.cells (g := N) rfl 2 _ rfl
  rw [Addr.add_lit, Nat.zero_add] at hc0 hc1 hc2
  have hNl := World.block_lt_of_cell? _ _ hc0
  have HC0 := hid (fun (W' : World) (hf : Fr V W' (fun _ => False)) => (And.intro (ci_fr hc0 hf) (And.intro (ci_fr hc1 hf) (And.intro (ci_fr hc2 hf) (Nat.lt_of_lt_of_le hNl hf.size)))))
  have HX := hid (RzI.ro (w := w) (V := V) (v := .slice a1 X.length c1) (L := X) ⟨HSv.out.each 0 (by simp) (by simp), HSv.out.fr⟩)
  have hmk := fun (W : World) => run_make_room W X.length (by omega)
  have hw3 : IntKind.i64.wrap ((X.length : Int) + 3) = (X.length : Int) + 3 := by rw [IntKind.wrap_i64]; omega
  have hmk2 := fun (W : World) => (show (Instr.makeSlice 36 (.int .i64 0) (.int .i64 (IntKind.i64.wrap ((X.length : Int) + 3)))).run Try.prog W = .ok (.slice (some ⟨W.heap.size, 0, none⟩) 0 (X.length + 3)) (W.alloc (.cells (madeCells #[Value.int .i64 0] (X.length + 3)) 3)) from by rw [hw3]; exact run_make_room W X.length (by omega))
  go_wp2_with fail
  go_cut [9] (fun s9 wx => Hid (I.Eo V wx s9 (X ++ [-88])))
  case first =>
    go_region_law (first
      | (refine step_ai (wb := V) rfl (.tmp 30) (.tmp 33) rfl (.slice (some ⟨V.heap.size, 0, none⟩) 0 (X.length + 3)) [] rfl (by first | exact made_room V _ (by omega) | exact I.Eo.fr (made_room V _ (by omega)) (by repeat (first | with_reducible exact Fr.refl _ _ | with_reducible apply Fr.drew | with_reducible apply Fr.alloc))) _ X rfl (HX.out.step (by repeat (first | with_reducible exact Fr.refl _ _ | with_reducible apply Fr.drew | with_reducible apply Fr.alloc))) (by simp; omega) ?_; intro v7 w7 hE hg; rw [List.nil_append] at hE; have HE := hid hE; (first | (have HZ := hid (lit_kept (N := V.heap.size + 1) hg (lit_b V _) (ob_ne (Nat.ne_of_lt (Nat.lt_succ_self _))))) | skip); clear hE hg)
      | (refine step_ai (wb := V) rfl (.tmp 30) (.tmp 33) rfl (.slice (some ⟨V.heap.size + 1, 0, none⟩) 0 (X.length + 3)) [] rfl (by first | exact made_room2 V _ (by omega) | exact I.Eo.fr (made_room2 V _ (by omega)) (by repeat (first | with_reducible exact Fr.refl _ _ | with_reducible apply Fr.drew | with_reducible apply Fr.alloc))) _ X rfl (HX.out.step (by repeat (first | with_reducible exact Fr.refl _ _ | with_reducible apply Fr.drew | with_reducible apply Fr.alloc))) (by simp; omega) ?_; intro v7 w7 hE hg; rw [List.nil_append] at hE; have HE := hid hE; have HZ := hid (lit_kept (N := V.heap.size) hg (lit_a V _) (ob_ne (Nat.ne_of_gt (Nat.lt_succ_self _)))); clear hE hg)
      | (refine step_ai (wb := V) rfl (.tmp 34) (.tmp 35) rfl _ X rfl (by first | exact HE.out | exact I.Eo.fr HE.out (by repeat (first | with_reducible exact Fr.refl _ _ | with_reducible apply Fr.drew | with_reducible apply Fr.alloc))) _ [-88] rfl (rz_lit HZ.out) (by simp; omega) ?_; intro v8 w8 hE8 hg8; have HE8 := hid hE8; clear hE8 hg8)
      | (refine step_ai (wb := V) rfl (.tmp 34) (.tmp 35) rfl _ X rfl (by first | exact HE.out | exact I.Eo.fr HE.out (by repeat (first | with_reducible exact Fr.refl _ _ | with_reducible apply Fr.drew | with_reducible apply Fr.alloc))) _ [-88] rfl (rz_lit (cell_of_one (heap_last w7 _ _ rfl))) (by simp; omega) ?_; intro v8 w8 hE8 hg8; have HE8 := hid hE8; clear hE8 hg8)
      | fail)
    all_goals (
      go_wp2_with fail
      go_meet
      exact HE8)
  case rest =>
    have H9 := hcut
    obtain ⟨g9, c9, e9, hc9a, hc9b, hcut9⟩ := own_cut9 H9.out.1
    subst e9
    have HX9 := hid hcut9
    have h9c := at_end H9.out.1
    have h9l := World.block_lt_of_cell? _ _ h9c
    clear hcut9 hc0 hc1 hc2 hNl hmk hmk2 hw3
    have HC6 := hid (fun (W' : World) (hf : Fr wc W' (fun _ => False)) => HC0.out W' (H9.out.2.trans hf))
    have HV9 := hid (H9.out.2)
    have HL3 := hid (fun (U : World) (hu : Fr (wc.alloc (.cells #[.slice (some ⟨g9, 0, none⟩) X.length c9, .slice a2 Y.length c2, .slice a3 Z.length c3] 36)) U (fun _ => False)) => (show Calls Try.prog 16 #[.slice (some ⟨wc.heap.size, 0, none⟩) 3 3] U fun e w' => ∃ v, e = .returned v ∧ I.Eo wc w' v Q from by
      have h := lists3u (b := w.heap.size) (w := w) (V := wc) (Nat.le_trans HSv.out.fr.size HV9.out.size) (own_mono HX9.out HSv.out.fr.size) (own_fr (HSv.out.each 1 (by simp) (by simp)) HV9.out (fun _ _ h => h)) (own_fr (HSv.out.each 2 (by simp) (by simp)) HV9.out (fun _ _ h => h)) (by have := HTot.out; simp only [List.getElem_cons_zero, List.getElem_cons_succ]; omega) hu rfl (HSv.out.fr.trans HV9.out)
      simp only [List.getElem_cons_zero, List.getElem_cons_succ, HQe.out] at h
      exact h))
    have HF := hid (Fr.refl wc (fun _ => False))
    have z1 : (0 : Int) ≤ (X.length : Int) := by omega
    have z2 : (X.length : Int) ≤ (c9 : Int) := by omega
    obtain ⟨k0, k1, k2, k3⟩ := HC6.out wc HF.out
    go_wp2_with fail
    go_cut [10] (fun s10 wx => Hid (I.Eo wc wx s10 Q))
    case first =>
      go_region_held3 (fun W' => Hid (Fr wc W' (fun _ => False)) ∧ W'.cell? ⟨N, 0, none⟩ = some (.slice a1 X.length c1) ∧ W'.cell? ⟨N, 1, none⟩ = some (.slice a2 Y.length c2) ∧ W'.cell? ⟨N, 2, none⟩ = some (.slice a3 Z.length c3) ∧ N < W'.heap.size)
        ((refine (fun h => ⟨h, HC6.out _ h⟩ : Fr wc _ (fun _ => False) → _) ?_; repeat (first | with_reducible exact HF.out | with_reducible exact Fr.refl _ _ | with_reducible apply Fr.drew | with_reducible apply Fr.alloc)))
        (first
        | (go_at_call 16; (with_reducible refine (HL3.out _ (Fr.refl _ _)).mono ?_); rintro e w6 ⟨v6, rfl, h6⟩; have H6 := hid h6; have HF := hid h6.2; clear h6)
        | (go_at_call 16; (with_reducible refine (HL3.out _ (Fr.drew (Fr.refl _ _))).mono ?_); rintro e w6 ⟨v6, rfl, h6⟩; have H6 := hid h6; have HF := hid h6.2; clear h6)
        | fail)
      all_goals (
        go_wp2_with fail
        go_meet
        exact H6)
    case rest =>
      have H10 := hcut
      obtain ⟨a10, c10, e10⟩ := I.Eo.shape H10.out
      subst e10
      have HV10 := hid (HV9.out.trans H10.out.2)
      have HC7 := hid (fun (W' : World) (hf : Fr wc W' (fun _ => False)) => (show W'.cell? ⟨N, 0, none⟩ = some (.slice a1 X.length c1) ∧ N < W'.heap.size ∧ W'.cell? ⟨g9, X.length, none⟩ = some (.int .i64 (-88)) ∧ g9 < W'.heap.size from by
        obtain ⟨q0, _, _, q3⟩ := HC6.out W' (H10.out.2.trans hf)
        exact ⟨q0, q3, ci_fr h9c (H10.out.2.trans hf), Nat.lt_of_lt_of_le h9l (H10.out.2.trans hf).size⟩))
      have HS1 := hid (fun (W' : World) (hf : Fr wc W' (fun _ => False)) => samei_any (L := Q) W' ((RdI.of H10.out.1 (by omega)).step hf) ((RdI.of HQ.out.1 (by omega)).step (HV10.out.trans hf)))
      have HS2 := hid (fun (W' : World) (hf : Fr wc W' (fun _ => False)) => samei_any (L := X) W' ((RdI.of HX9.out (by omega)).step (H10.out.2.trans hf)) ((RdI.of (v := .slice a1 X.length c1) (L := X) (HSv.out.each 0 (by simp) (by simp)) (by omega)).step (HV10.out.trans hf)))
      have HS3 := hid (fun (W' : World) => lists0 W')
      have HF := hid (Fr.refl wc (fun _ => False))
      obtain ⟨k0, k3, k4, k5⟩ := HC7.out wc HF.out
      have z3 : (X.length : Int) < ((X.length + 1 : Nat) : Int) := by omega
      go_wp2_with fail
      go_cut [82] (fun s82 wx => s82 = .bool false ∧ Hid (Fr wc wx (fun _ => False)))
      case first =>
        go_region_held (fun W' => Hid (Fr wc W' (fun _ => False)) ∧ W'.cell? ⟨N, 0, none⟩ = some (.slice a1 X.length c1) ∧ N < W'.heap.size ∧ W'.cell? ⟨g9, X.length, none⟩ = some (.int .i64 (-88)) ∧ g9 < W'.heap.size)
          ((refine (fun h => ⟨h, HC7.out _ h⟩ : Fr wc _ (fun _ => False) → _) ?_; repeat (first | with_reducible exact HF.out | with_reducible exact Fr.refl _ _ | with_reducible apply Fr.drew | with_reducible apply Fr.alloc)))
          (first
          | (go_at_call 17; with_reducible refine (HS1.out _ (by repeat (first | with_reducible exact HF.out | with_reducible exact Fr.refl _ _ | with_reducible apply Fr.drew | with_reducible apply Fr.alloc))).mono ?_; rintro e w7 ⟨rfl, hf⟩; have HF := hid (Fr.trans (a := wc) (by repeat (first | with_reducible exact HF.out | with_reducible exact Fr.refl _ _ | with_reducible apply Fr.drew | with_reducible apply Fr.alloc)) hf); clear hf)
          | (go_at_call 17; with_reducible refine (HS2.out _ (by repeat (first | with_reducible exact HF.out | with_reducible exact Fr.refl _ _ | with_reducible apply Fr.drew | with_reducible apply Fr.alloc))).mono ?_; rintro e w7 ⟨rfl, hf⟩; have HF := hid (Fr.trans (a := wc) (by repeat (first | with_reducible exact HF.out | with_reducible exact Fr.refl _ _ | with_reducible apply Fr.drew | with_reducible apply Fr.alloc)) hf); clear hf)
          | (go_at_call 16; with_reducible refine (HS3.out _).mono ?_; rintro e w7 ⟨a7, c7, rfl, hf⟩; have HF := hid (Fr.trans (a := wc) (by repeat (first | with_reducible exact HF.out | with_reducible exact Fr.refl _ _ | with_reducible apply Fr.drew | with_reducible apply Fr.alloc)) hf); clear hf)
          | fail)
        all_goals (
          go_wp2_with fail
          go_meet
          refine ⟨by simp, (?_ : Fr wc _ (fun _ => False))⟩
          repeat (first | with_reducible exact HF.out | with_reducible exact Fr.refl _ _ | with_reducible apply Fr.drew | with_reducible apply Fr.alloc))
      case rest =>
        obtain ⟨rfl, HF8⟩ := hcut
        have HV11 := hid (HV10.out.trans HF8.out)
        have HC9 := hid (fun (W' : World) (hf : Fr wc W' (fun _ => False)) => HC0.out W' (HV11.out.trans hf))
        have hWl : (X.map wd).length ≤ 200 ∧ (Y.map wd).length ≤ 200 ∧ (Z.map wd).length ≤ 200 ∧ (Q.map wd).length ≤ 600 := by
          rw [List.length_map, List.length_map, List.length_map, List.length_map]
          exact ⟨hxl, hyl, hzl, hq600⟩
        have HW1 := hid (fun (W' : World) (hf : Fr wc W' (fun _ => False)) => words_any (L := X) W' ((RdI.of (v := .slice a1 X.length c1) (L := X) (HSv.out.each 0 (by simp) (by simp)) (by omega)).step (HV11.out.trans hf)) (HFit.out X (by simp)) (by omega))
        have HW2 := hid (fun (W' : World) (hf : Fr wc W' (fun _ => False)) => words_any (L := Y) W' ((RdI.of (v := .slice a2 Y.length c2) (L := Y) (HSv.out.each 1 (by simp) (by simp)) (by omega)).step (HV11.out.trans hf)) (HFit.out Y (by simp)) (by omega))
        have HW3 := hid (fun (W' : World) (hf : Fr wc W' (fun _ => False)) => words_any (L := Z) W' ((RdI.of (v := .slice a3 Z.length c3) (L := Z) (HSv.out.each 2 (by simp) (by simp)) (by omega)).step (HV11.out.trans hf)) (HFit.out Z (by simp)) (by omega))
        have HW4 := hid (fun (W' : World) (hf : Fr wc W' (fun _ => False)) => words_any (L := Q) W' ((RdI.of HQ.out.1 (by omega)).step (HV11.out.trans hf)) HQf.out (by omega))
        simp only [List.map_cons, List.map_nil] at HTd
        generalize X.map wd = WX at *
        generalize Y.map wd = WY at *
        generalize Z.map wd = WZ at *
        generalize Q.map wd = WQ at *
        obtain ⟨hWX, hWY, hWZ, hWQ⟩ := hWl
        have HTt := hid (show tot [WX, WY, WZ] ≤ 1000000 by simp [tot]; omega)
        have HFw := hid (HSv.out.fr.trans HV11.out)
        have HF := hid (Fr.refl wc (fun _ => False))
        obtain ⟨k0, k1, k2, k3⟩ := HC9.out wc HF.out
        clear HSv HC0 HC6 HC7 HS1 HS2 HS3 HX9 H9 H10 HL3 HX HQ HQe HQf HQl HSrt HFit h9c h9l k4 k5
        go_wp2_with fail
        go_cut [11] (fun s11 wx => Hid (T.Eo wc wx s11 WQ))
        case first =>
          go_region_held3 (fun W' => Hid (Fr wc W' (fun _ => False)) ∧ W'.cell? ⟨N, 0, none⟩ = some (.slice a1 X.length c1) ∧ W'.cell? ⟨N, 1, none⟩ = some (.slice a2 Y.length c2) ∧ W'.cell? ⟨N, 2, none⟩ = some (.slice a3 Z.length c3) ∧ N < W'.heap.size)
            ((refine (fun h => ⟨h, HC9.out _ h⟩ : Fr wc _ (fun _ => False) → _) ?_; repeat (first | with_reducible exact HF.out | with_reducible exact Fr.refl _ _ | with_reducible apply Fr.drew | with_reducible apply Fr.alloc)))
            (first
            | (go_at_call 19; (with_reducible refine (HW1.out _ (by repeat (first | with_reducible exact HF.out | with_reducible exact Fr.refl _ _ | with_reducible apply Fr.drew | with_reducible apply Fr.alloc))).mono ?_); rintro e x1 ⟨v1, rfl, h1⟩; obtain ⟨b1, d1, e1⟩ := T.Eo.shape h1; subst e1; have HT1 := hid (TEo.behind (w := wc) h1 (by repeat (first | with_reducible exact HF.out | with_reducible exact Fr.refl _ _ | with_reducible apply Fr.drew | with_reducible apply Fr.alloc))); have HF := hid HT1.out.2; clear h1)
            | (go_at_call 19; (with_reducible refine (HW2.out _ (by repeat (first | with_reducible exact HF.out | with_reducible exact Fr.refl _ _ | with_reducible apply Fr.drew | with_reducible apply Fr.alloc))).mono ?_); rintro e x2 ⟨v2, rfl, h2⟩; obtain ⟨b2, d2, e2⟩ := T.Eo.shape h2; subst e2; have HT2 := hid (TEo.behind (w := wc) h2 (by repeat (first | with_reducible exact HF.out | with_reducible exact Fr.refl _ _ | with_reducible apply Fr.drew | with_reducible apply Fr.alloc))); have HT1 := hid (T.Eo.fr HT1.out (Fr.trans (by repeat (first | with_reducible exact Fr.refl _ _ | with_reducible apply Fr.drew | with_reducible apply Fr.alloc)) h2.2)); have HF := hid HT2.out.2; clear h2)
            | (go_at_call 19; (with_reducible refine (HW3.out _ (by repeat (first | with_reducible exact HF.out | with_reducible exact Fr.refl _ _ | with_reducible apply Fr.drew | with_reducible apply Fr.alloc))).mono ?_); rintro e x3 ⟨v3, rfl, h3⟩; obtain ⟨b3, d3, e3⟩ := T.Eo.shape h3; subst e3; have HT3 := hid (TEo.behind (w := wc) h3 (by repeat (first | with_reducible exact HF.out | with_reducible exact Fr.refl _ _ | with_reducible apply Fr.drew | with_reducible apply Fr.alloc))); have HT1 := hid (T.Eo.fr HT1.out (Fr.trans (by repeat (first | with_reducible exact Fr.refl _ _ | with_reducible apply Fr.drew | with_reducible apply Fr.alloc)) h3.2)); have HT2 := hid (T.Eo.fr HT2.out (Fr.trans (by repeat (first | with_reducible exact Fr.refl _ _ | with_reducible apply Fr.drew | with_reducible apply Fr.alloc)) h3.2)); have HF := hid HT3.out.2; clear h3)
            | (go_at_call 18; (with_reducible refine (lists3t (w := wc) (V := x3) HT1.out HT2.out HT3.out HTt.out (Fr.refl _ _)).mono ?_); rintro e x4 ⟨v4, rfl, h4⟩; rw [HTd.out] at h4; have HT4 := hid (TEo.behind (w := wc) h4 HT3.out.2); have HF := hid HT4.out.2; clear h4)
            | (go_at_call 18; (with_reducible refine (lists3t (w := wc) (V := x3) HT1.out HT2.out HT3.out HTt.out (Fr.drew (Fr.refl _ _))).mono ?_); rintro e x4 ⟨v4, rfl, h4⟩; rw [HTd.out] at h4; have HT4 := hid (TEo.behind (w := wc) h4 HT3.out.2); have HF := hid HT4.out.2; clear h4)
            | fail)
          all_goals (
            go_wp2_with fail
            go_meet
            exact HT4)
        case rest =>
          have H11 := hcut
          obtain ⟨a11, c11, e11⟩ := T.Eo.shape H11.out
          subst e11
          go_wp2_with fail
          refine (HW4.out _ H11.out.2).mono ?_
          rintro r x5 ⟨v5, rfl, h5⟩
          have H12 := hid h5
          have H11b := hid (T.Eo.fr H11.out h5.2)
          obtain ⟨a12, c12, e12⟩ := T.Eo.shape h5
          subst e12
          have HFe := hid ((HFw.out.trans H11.out.2).trans h5.2)
          clear h5
          go_wp2_with fail
          go_loopg [13] WQ.length (fun g s13 wx => ∃ i : Nat, s13 = .int .i64 (i : Int) ∧ i + g = WQ.length ∧ Hid (Fr x5 wx (fun _ => False)))
          case atStart => exact ⟨0, rfl, by omega, Fr.refl _ _⟩
          case round =>
            obtain ⟨i, rfl, hg, HFi⟩ := hrel
            cases gk with
            | zero =>
              have t1 : ¬ (i : Int) < (WQ.length : Int) := by omega
              clear hg
              go_wp2_with fail
              go_ret
              exact ⟨rfl, HFe.out.trans HFi.out⟩
            | succ gk =>
              have t0 : (0 : Int) ≤ (i : Int) := by omega
              have t1 : (i : Int) < (WQ.length : Int) := by omega
              have HG := hid hg
              have hne : WQ ≠ [] := fun e => by rw [e] at hg; simp at hg
              obtain ⟨g1, k1', e1, _, m1⟩ := T.Eo.cell H11b.out hne
              obtain ⟨g2, k2', e2, _, m2⟩ := T.Eo.cell H12.out hne
              obtain ⟨q1, q2⟩ : a11 = some ⟨g1, 0, none⟩ ∧ c11 = k1' := by simpa using e1
              obtain ⟨q3, q4⟩ : a12 = some ⟨g2, 0, none⟩ ∧ c12 = k2' := by simpa using e2
              subst q1 q2 q3 q4
              have f1 := ci_fr (m1 i (by omega)) HFi.out
              have f2 := ci_fr (m2 i (by omega)) HFi.out
              have l1 := World.block_lt_of_cell? _ _ f1
              have l2 := World.block_lt_of_cell? _ _ f2
              generalize WQ[i]?.getD default = y at *
              unfold T.eV at f1 f2
              clear m1 m2 hg e1 e2 hne
              go_wp2_with fail
              go_quiet (fail)
              go_wp2_with fail
              go_roundg gk
              case measure => omega
              case rel => exact ⟨i + 1, by go_num, by have := HG.out; omega, HFi.out.trans (by repeat (first | with_reducible exact Fr.refl _ _ | with_reducible apply Fr.drew | with_reducible apply Fr.drewN))⟩
end Go.Proofs.Ytilgkfpicdmkkaa.M
end
