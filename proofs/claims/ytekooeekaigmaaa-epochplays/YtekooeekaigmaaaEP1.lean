/- The document's lists: Has, With, Without; owner: walks. -/
import Derived.Test.YtekooeekaigmaaaEAlike
namespace Go.Proofs.Ytekooeekaigmaaa.E
open Go.RowKit Go.Maps Go.MuLone

set_option maxHeartbeats 1000000 in
theorem owner_any (o : Int) (w : World) : Calls Try.prog 51 #[.int .i64 o] w fun e w' => e = .returned (.bool (may o)) ∧ w' = w := by
  by_cases h1 : 1 ≤ o
  · by_cases h2 : o ≤ 64
    · have e : may o = true := by simp [may, h1, h2]
      rw [e]
      go_enter Try.func51, Try.ntmps51
      go_wp2_with fail
      go_ret
      exact ⟨rfl, rfl⟩
    · have e : may o = false := by simp [may, h2]
      rw [e]
      go_enter Try.func51, Try.ntmps51
      go_wp2_with fail
      go_ret
      exact ⟨rfl, rfl⟩
  · have e : may o = false := by simp [may, h1]
    rw [e]
    go_enter Try.func51, Try.ntmps51
    go_wp2_with fail
    go_ret
    exact ⟨rfl, rfl⟩

set_option maxHeartbeats 2000000 in
set_option maxRecDepth 100000 in
theorem Has_any {w : World} {base : Nat} {v : Value} {l : List Int} (h : OwI w base v l) (n : Int) :
    Calls Try.prog 52 #[v, .int .i64 n] w fun e w' => e = .returned (.bool (hasB l n)) ∧ w' = w := by
  obtain ⟨ao, cap, rfl, am, ag⟩ := h.at
  have AG := hid ag
  unfold maxLen at am
  clear h ag
  go_enter Try.func52, Try.ntmps52
  go_wp2_with fail
  go_loopg [5] l.length (fun g s5 wx => ∃ i : Nat, s5 = .int .i64 (i : Int) ∧ i + g = l.length ∧ Hid (∀ j, j < i → l.getD j 0 ≠ n) ∧ w = wx)
  case atStart => exact ⟨0, rfl, by omega, fun j hj => absurd hj (Nat.not_lt_zero _), rfl⟩
  case round =>
    obtain ⟨i, rfl, hg, HT, rfl⟩ := hrel
    cases gk with
    | zero =>
      have t1 : ¬ (i : Int) < (l.length : Int) := by omega
      have HI := hid (show i = l.length by omega)
      clear hg
      go_wp2_with fail
      go_ret
      refine ⟨?_, rfl⟩
      have : hasB l n = false := by
        rw [hasB_false]
        intro hm
        obtain ⟨j, hj, e⟩ := List.mem_iff_getElem.1 hm
        refine HT.out j (by rw [HI.out]; exact hj) ?_
        simp [List.getD, hj, e]
      rw [this]
      rfl
    | succ g =>
      have hi : i < l.length := by omega
      have t1 : (i : Int) < (l.length : Int) := by omega
      obtain ⟨g1, rfl, hc1⟩ := AG.out (by rintro rfl; simp at hi)
      have c1 := hc1 i hi
      have b1 := World.block_lt_of_cell? w _ c1
      dsimp only at b1
      have HG := hid hg
      have HI := hid hi
      generalize hx : l.getD i 0 = x at c1
      have HX := hid hx
      clear hg hc1 hx hi
      by_cases hxy : x = n
      · have HXY := hid hxy
        subst hxy
        go_wp2_with fail
        go_ret
        refine ⟨?_, rfl⟩
        have : hasB l x = true := by
          rw [hasB_true, ← HX.out]
          simp [List.getD, HI.out]
        rw [this]
        rfl
      · have HXY := hid hxy
        go_wp2_with fail
        go_roundg g
        case rel =>
          refine ⟨i + 1, by simp, by have := HG.out; omega, fun j hj => ?_, rfl⟩
          by_cases e : j = i
          · subst e; rw [HX.out]; exact HXY.out
          · exact HT.out j (by omega)
        case measure => omega

/-- One round of With. -/
def stW (n : Int) (a : List Int × Bool) (x : Int) : List Int × Bool := ((if a.2 = false ∧ n < x then a.1 ++ [n] else a.1) ++ [x], a.2 || decide (n < x) || decide (x = n))
def wF (n : Int) (l : List Int) : List Int × Bool := l.foldl (stW n) ([], false)
theorem stW_true (n : Int) : ∀ (l acc : List Int), l.foldl (stW n) (acc, true) = (acc ++ l, true)
  | [], acc => by simp
  | x :: l, acc => by
    simp only [List.foldl_cons]
    have : stW n (acc, true) x = (acc ++ [x], true) := by simp [stW]
    rw [this, stW_true n l]
    simp
def fin (n : Int) (a : List Int × Bool) : List Int := match a.2 with
  | false => a.1 ++ [n]
  | true => a.1
theorem stW_ins (n : Int) : ∀ (l acc : List Int), fin n (l.foldl (stW n) (acc, false)) = acc ++ ins n l
  | [], acc => by simp [ins, fin]
  | x :: l, acc => by
    show fin n (l.foldl (stW n) (stW n (acc, false) x)) = _
    by_cases h1 : n < x
    · have : stW n (acc, false) x = (acc ++ [n] ++ [x], true) := by simp [stW, h1]
      rw [this, stW_true]
      simp [ins, h1, fin]
    · by_cases h2 : n = x
      · subst h2
        have : stW n (acc, false) n = (acc ++ [n], true) := by simp [stW]
        rw [this, stW_true]
        simp [ins, fin]
      · have : stW n (acc, false) x = (acc ++ [x], false) := by
          have h3 : ¬ x = n := fun e => h2 e.symm
          simp [stW, h1, h3]
        rw [this, stW_ins n l]
        simp [ins, h1, h2]
theorem wF_len (n : Int) (l : List Int) : (wF n l).1.length ≤ l.length + 1 := by
  have key : ∀ (l : List Int) (a : List Int × Bool), (l.foldl (stW n) a).1.length ≤ a.1.length + l.length + (if a.2 = false then 1 else 0) := by
    intro l
    induction l with
    | nil => intro a; simp
    | cons x l ih =>
      intro a
      simp only [List.foldl_cons, List.length_cons]
      have := ih (stW n a x)
      obtain ⟨a1, a2⟩ := a
      cases a2 with
      | true =>
        simp [stW] at this ⊢
        omega
      | false =>
        by_cases h1 : n < x
        · simp [stW, h1] at this ⊢
          omega
        · by_cases h2 : x = n
          · simp [stW, h2] at this ⊢
            omega
          · simp [stW, h1, h2] at this ⊢
            omega
  have := key l ([], false)
  simpa [wF] using this
theorem wF_snoc (n : Int) (l : List Int) {i : Nat} (hi : i < l.length) : wF n (l.take (i + 1)) = stW n (wF n (l.take i)) (l.getD i 0) := by
  unfold wF
  rw [List.take_add_one, List.foldl_append]
  simp [List.getD, hi]

set_option maxHeartbeats 4000000 in
set_option maxRecDepth 100000 in
theorem With_any {w : World} {base : Nat} {v : Value} {l : List Int} (h : OwI w base v l) (hlen : l.length ≤ 4398046511000) (n : Int) :
    Calls Try.prog 64 #[v, .int .i64 n] w fun e w' => ∃ v', e = .returned v' ∧ OwI w' w.heap.size v' (ins n l) ∧ Fr w w' (fun _ => False) := by
  obtain ⟨ao, cap, rfl, am, ag⟩ := h.at
  have AG := hid ag
  have H := hid h
  clear h ag am
  go_enter Try.func64, Try.ntmps64
  go_wp2_with fail
  go_loopg [7, 5, 6] l.length (fun g s7 s5 s6 wx => ∃ i : Nat, s7 = .int .i64 (i : Int) ∧ s6 = .bool (wF n (l.take i)).2 ∧ i + g = l.length ∧ Hid (OwI wx w.heap.size s5 (wF n (l.take i)).1) ∧ Hid (Fr w wx (fun _ => False)))
  case atStart => exact ⟨0, rfl, rfl, by omega, World.ownsRow_nil _ _ _ _, Fr.refl _ _⟩
  case round =>
    obtain ⟨i, rfl, rfl, hg, HO, HF⟩ := hrel
    have hwl := wF_len n (l.take i)
    have htl : (l.take i).length ≤ l.length := by simp; omega
    cases gk with
    | zero =>
      have t1 : ¬ (i : Int) < (l.length : Int) := by omega
      have HI := hid (show i = l.length by omega)
      have HIns := hid (stW_ins n l [])
      have hfull : l.take i = l := by rw [HI.out, List.take_length]
      rw [hfull] at HO hwl
      rw [hfull]
      clear hg hfull htl
      have hsz := HF.out.size
      generalize hW : wF n l = W at *
      have HW := hid hW
      clear hW
      obtain ⟨acc, d⟩ := W
      change acc.length ≤ _ at hwl
      change Hid (OwI wr w.heap.size u5 acc) at HO
      show Code.wp _ _ _ _ _
      cases d with
      | true =>
        go_wp2_with fail
        go_ret
        refine ⟨_, rfl, ?_, HF.out⟩
        have e : fin n (wF n l) = [] ++ ins n l := HIns.out
        rw [HW.out] at e
        have e : acc = ins n l := e
        rw [← e]
        exact HO.out
      | false =>
        go_wp2_with (at_builtin; go_must (refine wpl_app rfl (.tmp 43) (.tmp 45) rfl w.heap.size u5 (.slice (some ⟨wr.heap.size, 0, none⟩) 1 1) acc [n] rfl rfl (HO.out.fr (alloc_fr wr (.cells #[.int .i64 n] 3) (fun _ => False)) (fun _ _ h => h)) (Or.inr ⟨_, _, rfl, cells_newI wr n⟩) ?c1 ?c2 ?_))
        case c1 => first | omega | (simp; omega)
        case c2 => first | omega | (simp; omega)
        intro v' w2 ho2 hg2 hat
        have HO2 := hid ho2
        have HF2 := hid ((HF.out.alloc (.cells #[.int .i64 n] 3)).grown hg2 (fun k hk e => by have := (World.ownsRow.lt HO.out k e).1; omega))
        clear ho2 hg2 hat
        go_wp2_with fail
        go_ret
        refine ⟨_, rfl, ?_, HF2.out⟩
        have e : fin n (wF n l) = [] ++ ins n l := HIns.out
        rw [HW.out] at e
        have e : acc ++ [n] = ins n l := e
        rw [← e]
        exact HO2.out
    | succ g =>
      have hi : i < l.length := by omega
      have t1 : (i : Int) < (l.length : Int) := by omega
      obtain ⟨g1, rfl, hc1⟩ := AG.out (by rintro rfl; simp at hi)
      have c0 := hc1 i hi
      have b0 := World.block_lt_of_cell? w _ c0
      have hbw := HF.out.below (Nat.le_refl _) (fun _ h => h.elim)
      have c1 : wr.cell? ⟨g1, i, none⟩ = some (.int .i64 (l.getD i 0)) := (hbw.cell (p := ⟨g1, i, none⟩) b0).trans c0
      have b1 := World.block_lt_of_cell? wr _ c1
      dsimp only at b1
      have HSt := hid (wF_snoc n l hi)
      have HG := hid hg
      have hsz := HF.out.size
      generalize hx : l.getD i 0 = x at *
      generalize hW : wF n (l.take i) = W at *
      obtain ⟨acc, d⟩ := W
      change acc.length ≤ _ at hwl
      change Hid (OwI wr w.heap.size u5 acc) at HO
      have hal : acc.length ≤ 4398046511002 := by omega
      show Code.wp _ _ _ _ _
      have HC : Hid (∀ W', Fr w W' (fun _ => False) → W'.cell? ⟨g1, i, none⟩ = some (.int .i64 x)) := fun W' hf => ((hf.below (Nat.le_refl _) (fun _ h => h.elim)).cell (p := ⟨g1, i, none⟩) (by assumption)).trans (by assumption)
      clear hg hc1 hbw hx hi hW hwl htl
      by_cases h1 : n < x
      · have h2 : ¬ x = n := by omega
        have HD2 := hid (show Value.bool true = .bool (stW n (acc, d) x).2 by simp [stW, h1])
        cases d with
        | false =>
          have HD1 := hid (show (stW n (acc, false) x).1 = acc ++ [n] ++ [x] by simp [stW, h1])
          go_wp2_with (at_builtin; go_must (refine wpl_app rfl (.tmp 24) (.tmp 26) rfl w.heap.size u5 (.slice (some ⟨wr.heap.size, 0, none⟩) 1 1) acc [n] rfl rfl (HO.out.fr (alloc_fr wr (.cells #[.int .i64 n] 3) (fun _ => False)) (fun _ _ h => h)) (Or.inr ⟨_, _, rfl, cells_newI wr n⟩) ?c1 ?c2 ?_))
          case c1 => first | omega | (simp; omega)
          case c2 => first | omega | (simp; omega)
          intro v2 w2 ho2 hg2 hat
          have HO2 := hid ho2
          have HF2 := hid ((HF.out.alloc (.cells #[.int .i64 n] 3)).grown hg2 (fun k hk e => by have := (World.ownsRow.lt HO.out k e).1; omega))
          have d1 := HC.out _ HF2.out
          have b2 := World.block_lt_of_cell? w2 _ d1
          dsimp only at b2
          have hs2 := HF2.out.size
          clear ho2 hg2 hat
          go_wp2_with (at_builtin; go_must (refine wpl_app rfl (.tmp 34) (.tmp 39) rfl w.heap.size v2 (.slice (some ⟨w2.heap.size, 0, none⟩) 1 1) (acc ++ [n]) [x] rfl rfl (HO2.out.fr (alloc_fr w2 (.cells #[.int .i64 x] 3) (fun _ => False)) (fun _ _ h => h)) (Or.inr ⟨_, _, rfl, cells_newI w2 x⟩) ?c1 ?c2 ?_))
          case c1 => first | omega | (simp; omega)
          case c2 => first | omega | (simp; omega)
          intro v3 w3 ho2 hg2 hat
          have HO3 := hid ho2
          have HF3 := hid ((HF2.out.alloc (.cells #[.int .i64 x] 3)).grown hg2 (fun k hk e => by have := (World.ownsRow.lt HO2.out k e).1; omega))
          clear ho2 hg2 hat
          go_wp2_with fail
          go_roundg g
          case rel =>
            refine ⟨i + 1, by simp, by rw [HSt.out]; exact HD2.out, by have := HG.out; omega, ?_, HF3⟩
            rw [HSt.out, HD1.out]
            first | exact HO3 | (show OwI _ _ _ _; simpa only [List.append_assoc, List.cons_append, List.nil_append] using HO3.out)
          case measure => omega
        | true =>
          have HD1 := hid (show (stW n (acc, true) x).1 = acc ++ [x] by simp [stW])
          go_wp2_with (at_builtin; go_must (refine wpl_app rfl (.tmp 34) (.tmp 39) rfl w.heap.size u5 (.slice (some ⟨wr.heap.size, 0, none⟩) 1 1) acc [x] rfl rfl (HO.out.fr (alloc_fr wr (.cells #[.int .i64 x] 3) (fun _ => False)) (fun _ _ h => h)) (Or.inr ⟨_, _, rfl, cells_newI wr x⟩) ?c1 ?c2 ?_))
          case c1 => first | omega | (simp; omega)
          case c2 => first | omega | (simp; omega)
          intro v3 w3 ho2 hg2 hat
          have HO3 := hid ho2
          have HF3 := hid ((HF.out.alloc (.cells #[.int .i64 x] 3)).grown hg2 (fun k hk e => by have := (World.ownsRow.lt HO.out k e).1; omega))
          clear ho2 hg2 hat
          go_wp2_with fail
          go_roundg g
          case rel =>
            refine ⟨i + 1, by simp, by rw [HSt.out]; exact HD2.out, by have := HG.out; omega, ?_, HF3⟩
            rw [HSt.out, HD1.out]
            first | exact HO3 | (show OwI _ _ _ _; simpa only [List.append_assoc, List.cons_append, List.nil_append] using HO3.out)
          case measure => omega
      · by_cases h2 : x = n
        · have HD2 := hid (show Value.bool true = .bool (stW n (acc, d) x).2 by simp [stW, h2])
          have HD1 := hid (show (stW n (acc, d) x).1 = acc ++ [x] by simp [stW, h1])
          subst h2
          cases d with
          | false =>
            go_wp2_with (at_builtin; go_must (refine wpl_app rfl (.tmp 34) (.tmp 39) rfl w.heap.size u5 (.slice (some ⟨wr.heap.size, 0, none⟩) 1 1) acc [x] rfl rfl (HO.out.fr (alloc_fr wr (.cells #[.int .i64 x] 3) (fun _ => False)) (fun _ _ h => h)) (Or.inr ⟨_, _, rfl, cells_newI wr x⟩) ?c1 ?c2 ?_))
            case c1 => first | omega | (simp; omega)
            case c2 => first | omega | (simp; omega)
            intro v3 w3 ho2 hg2 hat
            have HO3 := hid ho2
            have HF3 := hid ((HF.out.alloc (.cells #[.int .i64 x] 3)).grown hg2 (fun k hk e => by have := (World.ownsRow.lt HO.out k e).1; omega))
            clear ho2 hg2 hat
            go_wp2_with fail
            go_roundg g
            case rel =>
              refine ⟨i + 1, by simp, by rw [HSt.out]; exact HD2.out, by have := HG.out; omega, ?_, HF3⟩
              rw [HSt.out, HD1.out]
              first | exact HO3 | (show OwI _ _ _ _; simpa only [List.append_assoc, List.cons_append, List.nil_append] using HO3.out)
            case measure => omega
          | true =>
            go_wp2_with (at_builtin; go_must (refine wpl_app rfl (.tmp 34) (.tmp 39) rfl w.heap.size u5 (.slice (some ⟨wr.heap.size, 0, none⟩) 1 1) acc [x] rfl rfl (HO.out.fr (alloc_fr wr (.cells #[.int .i64 x] 3) (fun _ => False)) (fun _ _ h => h)) (Or.inr ⟨_, _, rfl, cells_newI wr x⟩) ?c1 ?c2 ?_))
            case c1 => first | omega | (simp; omega)
            case c2 => first | omega | (simp; omega)
            intro v3 w3 ho2 hg2 hat
            have HO3 := hid ho2
            have HF3 := hid ((HF.out.alloc (.cells #[.int .i64 x] 3)).grown hg2 (fun k hk e => by have := (World.ownsRow.lt HO.out k e).1; omega))
            clear ho2 hg2 hat
            go_wp2_with fail
            go_roundg g
            case rel =>
              refine ⟨i + 1, by simp, by rw [HSt.out]; exact HD2.out, by have := HG.out; omega, ?_, HF3⟩
              rw [HSt.out, HD1.out]
              first | exact HO3 | (show OwI _ _ _ _; simpa only [List.append_assoc, List.cons_append, List.nil_append] using HO3.out)
            case measure => omega
        · have HD2 := hid (show Value.bool d = .bool (stW n (acc, d) x).2 by simp [stW, h1, h2])
          have HD1 := hid (show (stW n (acc, d) x).1 = acc ++ [x] by simp [stW, h1])
          cases d with
          | false =>
            go_wp2_with (at_builtin; go_must (refine wpl_app rfl (.tmp 34) (.tmp 39) rfl w.heap.size u5 (.slice (some ⟨wr.heap.size, 0, none⟩) 1 1) acc [x] rfl rfl (HO.out.fr (alloc_fr wr (.cells #[.int .i64 x] 3) (fun _ => False)) (fun _ _ h => h)) (Or.inr ⟨_, _, rfl, cells_newI wr x⟩) ?c1 ?c2 ?_))
            case c1 => first | omega | (simp; omega)
            case c2 => first | omega | (simp; omega)
            intro v3 w3 ho2 hg2 hat
            have HO3 := hid ho2
            have HF3 := hid ((HF.out.alloc (.cells #[.int .i64 x] 3)).grown hg2 (fun k hk e => by have := (World.ownsRow.lt HO.out k e).1; omega))
            clear ho2 hg2 hat
            go_wp2_with fail
            go_roundg g
            case rel =>
              refine ⟨i + 1, by simp, by rw [HSt.out]; exact HD2.out, by have := HG.out; omega, ?_, HF3⟩
              rw [HSt.out, HD1.out]
              first | exact HO3 | (show OwI _ _ _ _; simpa only [List.append_assoc, List.cons_append, List.nil_append] using HO3.out)
            case measure => omega
          | true =>
            go_wp2_with (at_builtin; go_must (refine wpl_app rfl (.tmp 34) (.tmp 39) rfl w.heap.size u5 (.slice (some ⟨wr.heap.size, 0, none⟩) 1 1) acc [x] rfl rfl (HO.out.fr (alloc_fr wr (.cells #[.int .i64 x] 3) (fun _ => False)) (fun _ _ h => h)) (Or.inr ⟨_, _, rfl, cells_newI wr x⟩) ?c1 ?c2 ?_))
            case c1 => first | omega | (simp; omega)
            case c2 => first | omega | (simp; omega)
            intro v3 w3 ho2 hg2 hat
            have HO3 := hid ho2
            have HF3 := hid ((HF.out.alloc (.cells #[.int .i64 x] 3)).grown hg2 (fun k hk e => by have := (World.ownsRow.lt HO.out k e).1; omega))
            clear ho2 hg2 hat
            go_wp2_with fail
            go_roundg g
            case rel =>
              refine ⟨i + 1, by simp, by rw [HSt.out]; exact HD2.out, by have := HG.out; omega, ?_, HF3⟩
              rw [HSt.out, HD1.out]
              first | exact HO3 | (show OwI _ _ _ _; simpa only [List.append_assoc, List.cons_append, List.nil_append] using HO3.out)
            case measure => omega
end Go.Proofs.Ytekooeekaigmaaa.E
