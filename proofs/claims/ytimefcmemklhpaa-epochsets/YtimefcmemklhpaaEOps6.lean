/- Live, Drop, Begin, End: walks. -/
import Derived.Test.YtimefcmemklhpaaEOps5
namespace Go.Proofs.Ytimefcmemklhpaa.E
open Go.RowKit Go.Maps Go.MuLone

theorem wrap_fit {x : Int} (h : fits x) : IntKind.i64.wrap x = x := by unfold fits at h; rw [IntKind.wrap_i64]; omega
def liveN (b : Bo) : Int := ((heldL b).length : Int) + (((b.sets 65).length : Int) + ((b.sets 66).length : Int))
theorem flat_len {f : Nat → List Int} : ∀ n, (∀ i, i < n → (f i).length ≤ 65) → ((List.range n).flatMap f).length ≤ n * 65
  | 0, _ => by simp
  | n + 1, h => by
    have h1 := flat_len n (fun i hi => h i (by omega))
    have h2 := h n (by omega)
    rw [List.range_succ, List.flatMap_append, List.length_append]
    simp only [List.flatMap_cons, List.flatMap_nil, List.append_nil]
    omega
theorem up_len (l : List Int) : (up l).length ≤ l.length := by
  induction l with
  | nil => simp [up]
  | cons a l ih =>
    show (ins a (up l)).length ≤ _
    rw [ins_len (ri_up l)]
    split <;> simp <;> omega
theorem Wf.held_len {b : Bo} (h : Wf b) : (heldL b).length ≤ 4225 := by
  unfold heldL
  exact Nat.le_trans (up_len _) (flat_len 65 (fun i hi => h.lst_len hi))

set_option maxHeartbeats 2000000 in
set_option maxRecDepth 100000 in
theorem count_any {w : World} {lk : Int} {B : Nat} {m : Nat → Option Nat} {b : Bo} (h : Bk w lk B m b) :
    Calls Try.prog 56 #[.pointer (some ⟨B, 134, none⟩)] w fun e w' => e = .returned (.int .i64 (((b.sets 65).length : Int) + ((b.sets 66).length : Int))) ∧ Fr w w' (fun _ => False) := by
  have c4 : w.cell? ⟨B, 134, none⟩ = some (.map (m 65)) := h.get (by omega)
  have c5 : w.cell? ⟨B, 135, none⟩ = some (.map (m 66)) := h.get (by omega)
  have hl4 := fun k => ((h.map 65 (by omega)).fr (w' := w.drewN k) ((Fr.refl w (fun _ => False)).drewN k) (fun _ _ h => h)).len
  have hl5 := fun k => ((h.map 66 (by omega)).fr (w' := w.drewN k) ((Fr.refl w (fun _ => False)).drewN k) (fun _ _ h => h)).len
  have n4 := h.wf.len 65
  have n5 := h.wf.len 66
  have hlt := h.lt
  generalize (b.sets 65).length = a4 at *
  generalize (b.sets 66).length = a5 at *
  clear h
  go_enter Try.func56, Try.ntmps56
  go_wp2_with fail
  go_quiet (fail)
  go_wp2_with fail
  go_ret
  refine ⟨?_, (Fr.refl w (fun _ => False)).drewN nq⟩
  rfl

set_option maxHeartbeats 4000000 in
set_option maxRecDepth 100000 in
theorem liveM_any {w : World} {B : Nat} {m : Nat → Option Nat} {b : Bo} (h : Bk w 0 B m b) :
    Calls Try.prog 22 #[.pointer (some ⟨B, 0, none⟩)] w fun e w' => e = .returned (.int .i64 (liveN b)) ∧ Fr w w' (fun _ => False) := by
  have H := hid h
  clear h
  go_enter_defers Try.func22, Try.ntmps22
  go_wp2_with fail
  refine (lock_any H.out).mono ?_
  rintro e w2 ⟨rfl, hb1, hf1⟩
  have HB := hid hb1
  have HF := hid hf1
  have hlt := hb1.lt
  have HH : Hid (∀ W, Fr w2 W (fun _ => False) → Calls Try.prog 53 #[.pointer (some ⟨B, 0, none⟩)] W fun e w' => ∃ v, e = .returned v ∧ OwI w' W.heap.size v (heldL b) ∧ Fr W w' (fun _ => False)) := fun W hf => heldB_any (hb1.step hf)
  have HK : Hid (∀ W, Fr w2 W (fun _ => False) → Calls Try.prog 56 #[.pointer (some ⟨B, 134, none⟩)] W fun e w' => e = .returned (.int .i64 (((b.sets 65).length : Int) + ((b.sets 66).length : Int))) ∧ Fr W w' (fun _ => False)) := fun W hf => count_any (hb1.step hf)
  have n4 := hb1.wf.len 65
  have n5 := hb1.wf.len 66
  have n6 := hb1.wf.held_len
  clear hb1 hf1
  go_wp2_with fail
  have HF0 := hid (Fr.refl w2 (fun _ => False))
  go_cut [2] from 10 to 17 (fun s wx => s = .int .i64 (liveN b) ∧ Hid (Fr w2 wx (fun _ => False)))
  case first =>
    go_region_held3 (fun W' => Hid (Fr w2 W' (fun _ => False)))
      ((show Fr w2 _ (fun _ => False); repeat (first | with_reducible exact HF0.out | with_reducible exact Fr.refl _ _ | with_reducible apply Fr.drew | with_reducible apply Fr.alloc)))
      ((first
        | (go_at_call 53; refine (HH.out _ (by repeat (first | with_reducible exact HF0.out | with_reducible exact Fr.refl _ _ | with_reducible apply Fr.drew | with_reducible apply Fr.alloc))).mono ?_; rintro e w3 ⟨v1, rfl, ho, hf⟩; obtain ⟨ao, cap, rfl⟩ := own_nil_shape ho; have HF0 := hid (Fr.trans (a := w2) (by repeat (first | with_reducible exact HF0.out | with_reducible exact Fr.refl _ _ | with_reducible apply Fr.drew | with_reducible apply Fr.alloc)) hf); clear ho hf)
        | (go_at_call 56; refine (HK.out _ (by repeat (first | with_reducible exact HF0.out | with_reducible exact Fr.refl _ _ | with_reducible apply Fr.drew | with_reducible apply Fr.alloc))).mono ?_; rintro e w4 ⟨rfl, hf⟩; have HF0 := hid (Fr.trans (a := w2) (by repeat (first | with_reducible exact HF0.out | with_reducible exact Fr.refl _ _ | with_reducible apply Fr.drew | with_reducible apply Fr.alloc)) hf); clear hf)))
    all_goals (go_wp2_with fail)
    all_goals rw [wrap_fit (by unfold fits; omega)]
    all_goals go_meet
    all_goals exact ⟨rfl, HF0.out⟩
  case rest =>
    obtain ⟨rfl, HX⟩ := hcut
    go_wp2_with fail
    refine leaves_cons (f := 33) (args := #[.pointer (some ⟨B, 0, none⟩)]) (by simp) (by simp [go_sem]) ?_
    refine (unlock_any (HB.out.step HX.out) .returning).mono ?_
    rintro eZ uZ wZ ⟨rfl, rfl, hbZ, hfZ⟩
    refine ⟨_, results_tmp rfl _ _ _, ?_⟩
    exact ⟨rfl, H.out.same hbZ ((HF.out.trans (HX.out.mono (fun _ _ h => h.elim))).trans hfZ)⟩

theorem some_cong {b b' : Bo} (h : ∀ i, i < 65 → b.sets i = b'.sets i) (x : Int) : some' b x = some' b' x := by
  unfold some'
  have : ∀ l : List Nat, (∀ i ∈ l, i < 65) → l.any (fun i => hasB (b.sets i) x) = l.any (fun i => hasB (b'.sets i) x) := by
    intro l
    induction l with
    | nil => intro _; rfl
    | cons a l ih =>
      intro hl
      simp only [List.any_cons]
      rw [h a (hl a (by simp)), ih (fun i hi => hl i (by simp [hi]))]
  exact this _ (fun i hi => by simpa using hi)
theorem some_loose (b : Bo) (e x : Int) : some' (loose b e) x = some' b x := some_cong (fun i hi => loose_sets b e (by omega)) x
theorem upd_upd {α : Type} (f : Nat → α) (i : Nat) (v u : α) : upd (upd f i v) i u = upd f i u := by
  funext j
  unfold upd
  split <;> rfl
theorem upd_self {α : Type} (f : Nat → α) (i : Nat) : upd f i (f i) = f := by
  funext j
  unfold upd
  split
  · rename_i h; rw [h]
  · rfl
theorem foldl_loose : ∀ (ss : List Int) (b : Bo), Ri (b.sets 65) → ∃ L, ss.foldl loose b = { b with sets := upd b.sets 65 L } ∧ Ri L ∧ ∀ x, x ∈ L ↔ x ∈ b.sets 65 ∨ (x ∈ ss ∧ some' b x = false)
  | [], b, h => ⟨b.sets 65, by rw [upd_self]; rfl, h, by simp⟩
  | e :: ss, b, h => by
    by_cases hs : some' b e = true
    · have e1 : loose b e = b := by unfold loose; rw [if_pos hs]
      obtain ⟨L, h1, h2, h3⟩ := foldl_loose ss b h
      refine ⟨L, by rw [List.foldl_cons, e1, h1], h2, fun x => ?_⟩
      rw [h3 x]
      constructor
      · rintro (h | ⟨h, h'⟩)
        · exact Or.inl h
        · exact Or.inr ⟨by simp [h], h'⟩
      · rintro (h | ⟨h, h'⟩)
        · exact Or.inl h
        · rcases List.mem_cons.1 h with rfl | h
          · rw [hs] at h'; cases h'
          · exact Or.inr ⟨h, h'⟩
    · have e1 : loose b e = { b with sets := upd b.sets 65 (ins e (b.sets 65)) } := by unfold loose; rw [if_neg hs]
      have e2 : (loose b e).sets 65 = ins e (b.sets 65) := by rw [e1]; exact upd_same b.sets 65 (ins e (b.sets 65))
      obtain ⟨L, h1, h2, h3⟩ := foldl_loose ss (loose b e) (by rw [e2]; exact ri_ins h)
      refine ⟨L, ?_, h2, fun x => ?_⟩
      · rw [List.foldl_cons, h1, e1]
        dsimp only
        rw [upd_upd]
      · rw [h3 x, e2, mem_ins, some_loose]
        constructor
        · rintro ((rfl | h) | ⟨h, h'⟩)
          · exact Or.inr ⟨by simp, by simpa using hs⟩
          · exact Or.inl h
          · exact Or.inr ⟨by simp [h], h'⟩
        · rintro (h | ⟨h, h'⟩)
          · exact Or.inl (Or.inr h)
          · rcases List.mem_cons.1 h with rfl | h
            · exact Or.inl (Or.inl rfl)
            · exact Or.inr ⟨h, h'⟩
theorem foldl_perm {ss tt : List Int} (h : ss.Perm tt) {b : Bo} (hr : Ri (b.sets 65)) : ss.foldl loose b = tt.foldl loose b := by
  obtain ⟨L, h1, h2, h3⟩ := foldl_loose ss b hr
  obtain ⟨L', h1', h2', h3'⟩ := foldl_loose tt b hr
  have : L = L' := ri_ext h2 h2' (fun x => by rw [h3, h3', h.mem_iff])
  rw [h1, h1', this]
theorem Bk.clears {w w' : World} {lk : Int} {B : Nat} {m : Nat → Option Nat} {b : Bo} (h : Bk w lk B m b) {n x : Nat} (hn : n < 65) (hx : m n = some x) (hg : w.grownBy w' (some x)) (hl : Ms w' x []) : Bk (w'.setCell ⟨B, 4 + n * 2 + 1, none⟩ (.int .i64 0)) lk B m (cleared b n) := by
  have h1 := h.turn (show n ≤ 66 by omega) hx hg hl (h.wf.put (by simp) (by simp) (fun _ => by have := h.wf.pins; simp; omega))
  have h2 := h1.setInn hn (v := 0) (by have := h.wf.now; dsimp only; omega)
  exact h2

set_option maxHeartbeats 4000000 in
set_option maxRecDepth 100000 in
theorem dropM_any {w : World} {B : Nat} {m : Nat → Option Nat} {b : Bo} (h : Bk w 0 B m b) (o : Int) :
    Calls Try.prog 43 #[.pointer (some ⟨B, 0, none⟩), .int .i64 o] w fun x w' => x = .returned (.int .i64 (dropN b o)) ∧ Lf w w' B m (dropB b o) := by
  have H := hid h
  cases hm : may o with
  | false =>
    have e0 : dropN b o = 0 := by simp [dropN, hm]
    have e2 : dropB b o = b := by simp [dropB, hm]
    rw [e0, e2]
    clear h e0 e2
    go_enter Try.func43, Try.ntmps43
    go_wp2_with fail
    refine (may_any o _).mono ?_
    rintro e w1 ⟨rfl, rfl⟩
    rw [hm]
    go_wp2_with fail
    go_ret
    exact ⟨rfl, Lf.mk' H.out (Fr.refl _ _)⟩
  | true =>
    obtain ⟨n, rfl, hn1, hn2⟩ := nat_of hm
    have hn3 : (n : Int) < 65 := by omega
    have E0 := hid (show dropN b n = ((lst b n).length : Int) by simp [dropN, hm])
    have E2 := hid (show dropB b n = (lst b n).foldl loose (cleared b n) by simp [dropB, hm])
    clear h
    go_enter_defers Try.func43, Try.ntmps43
    go_wp2_with fail
    refine (may_any n _).mono ?_
    rintro e w1 ⟨rfl, rfl⟩
    rw [hm]
    go_wp2_with fail
    refine (lock_any H.out).mono ?_
    rintro e w2 ⟨rfl, hb1, hf1⟩
    have HB := hid hb1
    have HF := hid hf1
    obtain ⟨x, hx, c4, c5⟩ := hb1.hand (show n < 65 by omega)
    have hlt := hb1.lt
    have HX := hid hx
    clear hb1 hf1 hx
    go_wp2_with fail
    have hLL := hlist_any (HB.out.map n (by omega)) (HB.out.wf.ri n) (HB.out.wf.len n) (b.inn n)
    rw [HX.out] at hLL
    refine hLL.mono ?_
    rintro e w3 ⟨v, rfl, hL⟩
    have HL := hid hL
    have hb3 := HB.out.step hL.fr
    have HB3 := hid hb3
    obtain ⟨x', hx', c4', c5'⟩ := hb3.hand (show n < 65 by omega)
    rw [HX.out] at hx'
    cases hx'
    obtain ⟨w4, hrun, hm4, hg4⟩ := (hb3.ms (show n ≤ 66 by omega) HX.out).clear 0
    have hrun' : ∀ ty, (Builtin.clear_ #[61] ty #[.map (some x)]).run Try.prog w3 = .ok (.tuple #[]) w4 := fun _ => hrun
    have hfg : Fr w3 w4 (fun k => k = x) := (Fr.refl _ _).grown hg4 (fun k _ e => by cases e; rfl)
    have hcB : w4.heap[B]? = w3.heap[B]? := hfg.block B hb3.lt (fun e => hb3.ne (show n ≤ 66 by omega) HX.out e.symm)
    have c5'' : w4.cell? ⟨B, 4 + n * 2 + 1, none⟩ = some (.int .i64 (b.inn n)) := (World.cell?_of_block (w := w3) (w' := w4) (a := ⟨B, 4 + n * 2 + 1, none⟩) hcB).trans c5'
    have f5 : w4.frozen? ⟨B, 4 + n * 2 + 1, none⟩ = false := by simp [World.frozen?, hcB, hb3.cell]
    have hlt4 : B < w4.heap.size := Nat.lt_of_lt_of_le hb3.lt hg4.size
    have HB4 := hid (hb3.clears (show n < 65 by omega) HX.out hg4 hm4)
    obtain ⟨ss, hp, ho⟩ := HL.out.own
    have HP := hid hp
    have HF3 := hid ((ow_B (m := m) HF.out).trans (ow_F HL.out.fr))
    have HF4 := hid ((HF3.out.grown hg4 (fun k _ hk => by cases hk; exact Or.inr ⟨n, by omega, HX.out⟩)).trans (ow_B (fr_poke w4 B (4 + n * 2 + 1) (.int .i64 0))))
    have HOW : Hid (∀ k, ow B m k → k < w2.heap.size) := fun k hk => HB.out.ow_lt hk
    have HO4 := hid (((ho.fr hfg (fun k hk e => by
      have h1 := (World.ownsRow.lt ho k hk).1
      have h2 := HOW.out x (Or.inr ⟨n, by omega, HX.out⟩)
      omega)).fr (fr_poke w4 B (4 + n * 2 + 1) (.int .i64 0)) (fun k hk e => by
      have h1 := (World.ownsRow.lt ho k hk).1
      have h2 := HOW.out B (Or.inl rfl)
      omega)))
    have hl2 : ss.length ≤ 65 := by
      have h1 := hp.length_eq
      have h2 := HB.out.wf.lst_len (show n < 65 by omega)
      unfold lst at h2
      omega
    have HLO : Hid (∀ y ∈ ss, 1 ≤ y ∧ y < b.now) := fun y hy => HB.out.wf.lst n y (by unfold lst; exact hp.mem_iff.1 hy)
    obtain ⟨ao, cap, hv⟩ := own_nil_shape ho
    subst hv
    clear hb3 hm4 hg4 hrun hfg hcB hp ho hL c4 c5 hlt
    go_wp2_with fail
    generalize hw5 : w4.setCell ⟨B, 4 + n * 2 + 1, none⟩ (.int .i64 0) = w5 at *
    clear hw5 c4' c5' c5'' f5 hlt4 hrun'
    go_loopg [37] ss.length (fun g s37 wx => ∃ i : Nat, s37 = .int .i64 (i : Int) ∧ i + g = ss.length ∧ Hid (Bk wx 1 B m ((ss.take i).foldl loose (cleared b n))) ∧ Hid (OwI wx w2.heap.size (.slice ao ss.length cap) ss) ∧ Hid (Fr w1 wx (ow B m)))
    case atStart => exact ⟨0, rfl, by omega, HB4, HO4, HF4⟩
    case round =>
      obtain ⟨i, rfl, hg, HB5, HO5, HF5⟩ := hrel
      cases gk with
      | zero =>
        have t1 : ¬ (i : Int) < (ss.length : Int) := by omega
        have HI := hid (show i = ss.length by omega)
        clear hg
        go_wp2_with fail
        refine leaves_cons (f := 33) (args := #[.pointer (some ⟨B, 0, none⟩)]) (by simp) (by simp [go_sem]) ?_
        refine (unlock_any HB5.out .returning).mono ?_
        rintro eZ uZ wZ ⟨rfl, rfl, hbZ, hfZ⟩
        refine ⟨_, results_tmp rfl _ _ _, ?_⟩
        have hb6 := hbZ
        rw [HI.out, List.take_length] at hb6
        rw [E0.out, E2.out, ← foldl_perm (tt := lst b n) HP.out (HB4.out.wf.ri 65)]
        have e7 : (ss.length : Int) = ((lst b n).length : Int) := by have := HP.out.length_eq; unfold lst; omega
        rw [← e7]
        exact ⟨rfl, Lf.mk' hb6 (HF5.out.trans (ow_B hfZ))⟩
      | succ g =>
        have hi : i < ss.length := by omega
        have t1 : (i : Int) < (ss.length : Int) := by omega
        have HG := hid hg
        have HI := hid hi
        have HOwn := HO5.out.2
        rcases HOwn with ⟨hv, h0⟩ | ⟨g', cap', cur, hv, r⟩
        · simp only [Value.slice.injEq] at hv
          omega
        · simp only [Value.slice.injEq] at hv
          obtain ⟨rfl, _, rfl⟩ := hv
          have hc : wr.cell? ⟨g', i, none⟩ = some (.int .i64 (ss.getD i 0)) := by
            have h1 := World.ownsRow.cells HO5.out (g := g') rfl i (.int .i64 (ss.getD i 0)) (by simp [zv, List.getD, hi])
            rw [Addr.add_lit] at h1
            simpa using h1
          have hgl := World.block_lt_of_cell? wr _ hc
          dsimp only at hgl
          generalize hy : ss.getD i 0 = y at hc
          have HY := hid hy
          clear hg r hy
          go_wp2_with fail
          have hlo := HLO.out y (by rw [← HY.out]; simp [List.getD, HI.out])
          have hnow : (((ss.take i).foldl loose (cleared b n))).now = b.now := by
            obtain ⟨L, h1, _⟩ := foldl_loose (ss.take i) (cleared b n) (HB4.out.wf.ri 65)
            rw [h1]
            rfl
          refine (let_any HB5.out hlo.1 (by rw [hnow]; exact hlo.2)).mono ?_
          rintro e w6 ⟨rfl, hb6, hf6⟩
          have HB6 := hid hb6
          have HF6 := hid (HF5.out.trans hf6)
          have HO6 := hid (HO5.out.fr hf6 (fun k hk e => by
            have h1 := (World.ownsRow.lt HO5.out k hk).1
            have h2 := HOW.out k e
            omega))
          clear hb6 hf6 hlo hnow
          go_wp2_with fail
          go_roundg g
          case rel =>
            refine ⟨i + 1, by simp, by have := HG.out; omega, ?_, HO6.out, HF6.out⟩
            have e8 : ss.take (i + 1) = ss.take i ++ [y] := by
              rw [List.take_add_one, ← HY.out]
              simp [List.getD, HI.out]
            show Bk _ _ _ _ ((ss.take (i + 1)).foldl loose (cleared b n))
            rw [e8, List.foldl_append]
            exact HB6.out
          case measure => omega
end Go.Proofs.Ytimefcmemklhpaa.E
