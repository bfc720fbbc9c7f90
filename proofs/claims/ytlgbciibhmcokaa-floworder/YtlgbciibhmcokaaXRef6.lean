/- The document's flow: New: a walk. -/
import Derived.Test.YtlgbciibhmcokaaXRef5
namespace Go.Proofs.Ytlgbciibhmcokaa
open Go.RowKit

theorem made_one (z : Value) (n : Nat) : madeCells #[z] (n * 1) = (List.replicate n z).toArray := by
  apply Array.ext'
  apply List.ext_getElem?
  intro j
  rw [Nat.mul_one]
  by_cases hj : j < n
  · simp [madeCells, hj, Nat.mod_one]
  · rw [List.getElem?_eq_none (by simp [madeCells]; omega), List.getElem?_eq_none (by simp; omega)]
theorem run_make_one {TS T : TypeId} {z : Value} {by' : Nat} (hu : Try.prog.underlying TS = some (.slice T)) (hi : (Try.prog.info? T).map (fun i => (i.zero, i.size, i.bytes)) = some (some z, 1, by')) (hz : z.cells = #[z]) (hb : by' ≤ 100) (W : World) (n : Nat) (hn : n ≤ 8) : (Instr.makeSlice TS (.int .i64 (n : Int)) (.int .i64 (n : Int))).run Try.prog W = .ok (.slice (some ⟨W.heap.size, 0, none⟩) n n) (W.alloc (.cells (List.replicate n z).toArray T)) := by
  obtain ⟨i0, h1, hz0, hz1, hz2⟩ := infoP hi
  have hb2 : by' * n ≤ 800 := by rw [Nat.mul_comm]; exact Nat.mul_le_mul hn hb
  have hr := run_make (P := Try.prog) W TS T i0 _ hu h1 hz0 .i64 .i64 (n : Int) (n : Int) (by omega) (Int.le_refl _) (by rw [hz2, ← Int.natCast_mul]; omega) (by omega)
  rw [hz1, Int.toNat_natCast, hz, made_one] at hr
  exact hr
theorem Try.info_si : (Try.prog.info? 45).map (fun i => (i.zero, i.size, i.bytes)) = some (some (.slice none 0 0), 1, 24) := by kernel_rfl
theorem Try.info_sm : (Try.prog.info? 93).map (fun i => (i.zero, i.size, i.bytes)) = some (some (.slice none 0 0), 1, 24) := by kernel_rfl
theorem Try.info_in : (Try.prog.info? 3).map (fun i => (i.zero, i.size, i.bytes)) = some (some (.int .i64 0), 1, 8) := by kernel_rfl
theorem ss_new {α : Type} (f : α → List Value) (T TS : TypeId) (K lo : Nat) {W : World} {Q n : Nat} (h : W.heap[Q]? = some (.cells (List.replicate n (Value.slice none 0 0)).toArray TS (0, 0))) : SS f T TS K lo W Q (List.replicate n nil3) (List.replicate n []) := by
  refine ⟨h, by simp, fun i hi => ?_, fun i j k hi hj hk => ?_⟩
  · rw [rep_getD, rep_getD]
    exact ⟨by simp [fl], Or.inl ⟨rfl, rfl⟩⟩
  · rw [rep_getD] at hk
    simp [nil3, Value.ownBlock] at hk
/-- What the document's New leaves. -/
def NewR (w w' : World) (ns no box : Nat) (e : Ending) : Prop := ∃ g : RX, e = .returned (.tuple #[.pointer (some ⟨g.R, 0, none⟩), .int .i64 0]) ∧ (∀ lo, RF lo w' g box (newP ns no)) ∧ (∀ k, g.ow k → w.heap.size ≤ k) ∧ Fr w w' (fun _ => False)
theorem newR_of {w w' : World} {R Q X N ns no box : Nat} (hR : w'.heap[R]? = some (.cells #[.int .i64 (box : Int), .slice (some ⟨Q, 0, none⟩) ns ns, .slice (some ⟨X, 0, none⟩) no no, .slice (some ⟨N, 0, none⟩) ns ns] 71 (0, 0))) (hQ : w'.heap[Q]? = some (.cells (List.replicate ns (Value.slice none 0 0)).toArray 45 (0, 0))) (hX : w'.heap[X]? = some (.cells (List.replicate no (Value.slice none 0 0)).toArray 93 (0, 0))) (hN : w'.heap[N]? = some (.cells (List.replicate ns (Value.int .i64 0)).toArray 3 (0, 0))) (b1 : w.heap.size ≤ R) (b2 : w.heap.size ≤ Q) (b3 : w.heap.size ≤ X) (b4 : w.heap.size ≤ N) (hf : Fr w w' (fun _ => False)) : NewR w w' ns no box (.returned (.tuple #[.pointer (some ⟨R, 0, none⟩), .int .i64 0])) := by
  refine ⟨⟨R, Q, X, N, List.replicate ns nil3, List.replicate no nil3⟩, rfl, fun lo => ⟨?_, ss_new elI _ _ 4 lo hQ, ss_new elM _ _ 5 lo hX, ?_⟩, ?_, hf⟩
  · show _ = some (Obj.cells #[_, .slice _ (List.replicate ns ([] : List It)).length (List.replicate ns ([] : List It)).length, .slice _ (List.replicate no ([] : List Ms)).length (List.replicate no ([] : List Ms)).length, .slice _ (List.replicate ns ([] : List It)).length (List.replicate ns ([] : List It)).length] _ _)
    rw [List.length_replicate, List.length_replicate]
    exact hR
  · show _ = some (Obj.cells (nv (List.replicate ns 0)).toArray _ _)
    unfold nv
    rw [List.map_replicate]
    exact hN
  · rintro k (e | e | e | e | ⟨i, hi, hk⟩ | ⟨i, hi, hk⟩)
    · rw [e]; exact b1
    · rw [e]; exact b2
    · rw [e]; exact b3
    · rw [e]; exact b4
    · change ((List.replicate ns nil3).getD i nil3).ownBlock = some k at hk
      rw [rep_getD] at hk
      simp [nil3, Value.ownBlock] at hk
    · change ((List.replicate no nil3).getD i nil3).ownBlock = some k at hk
      rw [rep_getD] at hk
      simp [nil3, Value.ownBlock] at hk
set_option maxHeartbeats 2000000 in
theorem rnew_bad {ns no box : Int} (w : World) (h : ¬ ((1 ≤ ns ∧ ns ≤ 8) ∧ (1 ≤ no ∧ no ≤ 8) ∧ (1 ≤ box ∧ box ≤ 64))) : Calls Try.prog 10 #[.int .i64 ns, .int .i64 no, .int .i64 box] w fun e w' => e = .returned (.tuple #[.pointer none, .int .i64 1]) ∧ w' = w := by
  have hc : ns < 1 ∨ (¬ ns < 1 ∧ 8 < ns) ∨ (¬ ns < 1 ∧ ¬ 8 < ns ∧ no < 1) ∨ (¬ ns < 1 ∧ ¬ 8 < ns ∧ ¬ no < 1 ∧ 8 < no) ∨ (¬ ns < 1 ∧ ¬ 8 < ns ∧ ¬ no < 1 ∧ ¬ 8 < no ∧ box < 1) ∨ (¬ ns < 1 ∧ ¬ 8 < ns ∧ ¬ no < 1 ∧ ¬ 8 < no ∧ ¬ box < 1 ∧ 64 < box) := by omega
  clear h
  rcases hc with t1 | ⟨t1, t2⟩ | ⟨t1, t2, t3⟩ | ⟨t1, t2, t3, t4⟩ | ⟨t1, t2, t3, t4, t5⟩ | ⟨t1, t2, t3, t4, t5, t6⟩
  all_goals
    go_enter Try.func10, Try.ntmps10
    go_wp2_with fail
    go_ret2
    exact ⟨rfl, rfl⟩
theorem four (w : World) (a b c d : Obj) : ((((w.alloc a).alloc b).alloc c).alloc d).heap[w.heap.size]? = some a ∧ ((((w.alloc a).alloc b).alloc c).alloc d).heap[w.heap.size + 1]? = some b ∧ ((((w.alloc a).alloc b).alloc c).alloc d).heap[w.heap.size + 1 + 1]? = some c ∧ ((((w.alloc a).alloc b).alloc c).alloc d).heap[w.heap.size + 1 + 1 + 1]? = some d :=
  ⟨keep_block (keep_block (keep_block (heap_last w a _ rfl) (alloc_fr _ b (fun _ => False)) (fun h => h)) (alloc_fr _ c (fun _ => False)) (fun h => h)) (alloc_fr _ d (fun _ => False)) (fun h => h), keep_block (keep_block (heap_last (w.alloc a) b _ (by simp)) (alloc_fr _ c (fun _ => False)) (fun h => h)) (alloc_fr _ d (fun _ => False)) (fun h => h), keep_block (heap_last ((w.alloc a).alloc b) c _ (by simp)) (alloc_fr _ d (fun _ => False)) (fun h => h), heap_last _ d _ (by simp)⟩
set_option maxHeartbeats 4000000 in
theorem rnew_ok {ns no box : Nat} (w : World) (h1 : 1 ≤ ns ∧ ns ≤ 8) (h2 : 1 ≤ no ∧ no ≤ 8) (h3 : 1 ≤ box ∧ box ≤ 64) : Calls Try.prog 10 #[.int .i64 (ns : Int), .int .i64 (no : Int), .int .i64 (box : Int)] w fun e w' => NewR w w' ns no box e := by
  have m1 := fun W => run_make_one Try.underlying42 Try.info_si rfl (by decide) W ns h1.2
  have m2 := fun W => run_make_one Try.underlying68 Try.info_sm rfl (by decide) W no h2.2
  have m3 := fun W => run_make_one Try.underlying69 Try.info_in rfl (by decide) W ns h1.2
  have t1 : ¬ (ns : Int) < 1 := by omega
  have t2 : ¬ (8 : Int) < (ns : Int) := by omega
  have t3 : ¬ (no : Int) < 1 := by omega
  have t4 : ¬ (8 : Int) < (no : Int) := by omega
  have t5 : ¬ (box : Int) < 1 := by omega
  have t6 : ¬ (64 : Int) < (box : Int) := by omega
  go_enter Try.func10, Try.ntmps10
  go_wp2_with fail
  go_region
  all_goals
    go_wp2_with fail
    go_ret2
  all_goals
    refine newR_of (R := w.heap.size + 1 + 1 + 1) (four w _ _ _ _).2.2.2 ?_ ?_ ?_ (by omega) (by omega) (by omega) (by omega) ((((alloc_fr w _ _).alloc _).alloc _).alloc _).drew
    all_goals first | exact (four w _ _ _ _).1 | exact (four w _ _ _ _).2.1 | exact (four w _ _ _ _).2.2.1
end Go.Proofs.Ytlgbciibhmcokaa
