/- The document's book in memory; Without, Held: walks. -/
import Derived.Test.YtekooeekaigmaaaEP1
import Derived.Test.YtekooeekaigmaaaELivesP
namespace Go.Proofs.Ytekooeekaigmaaa.E
open Go.RowKit Go.Maps Go.MuLone

theorem del_snoc (n : Int) (l : List Int) {i : Nat} (hi : i < l.length) : del n (l.take (i + 1)) = del n (l.take i) ++ (if l.getD i 0 = n then [] else [l.getD i 0]) := by
  unfold del
  rw [List.take_add_one, List.filter_append, List.getElem?_eq_getElem hi]
  by_cases h : l.getD i 0 = n
  · rw [if_pos h]
    simp [List.getD, hi] at h
    simp [h]
  · rw [if_neg h]
    simp [List.getD, hi] at h
    simp [List.getD, hi, h]
set_option maxHeartbeats 2000000 in
set_option maxRecDepth 100000 in
theorem Without_any {w : World} {base : Nat} {v : Value} {l : List Int} (h : OwI w base v l) (hlen : l.length ≤ 4398046511000) (n : Int) :
    Calls Try.prog 65 #[v, .int .i64 n] w fun e w' => ∃ v', e = .returned v' ∧ OwI w' w.heap.size v' (del n l) ∧ Fr w w' (fun _ => False) := by
  obtain ⟨ao, cap, rfl, am, ag⟩ := h.at
  have AG := hid ag
  clear h ag am
  go_enter Try.func65, Try.ntmps65
  go_wp2_with fail
  go_loopg [6, 5] l.length (fun g s6 s5 wx => ∃ i : Nat, s6 = .int .i64 (i : Int) ∧ i + g = l.length ∧ Hid (OwI wx w.heap.size s5 (del n (l.take i))) ∧ Hid (Fr w wx (fun _ => False)))
  case atStart => exact ⟨0, rfl, by omega, World.ownsRow_nil _ _ _ _, Fr.refl _ _⟩
  case round =>
    obtain ⟨i, rfl, hg, HO, HF⟩ := hrel
    cases gk with
    | zero =>
      have t1 : ¬ (i : Int) < (l.length : Int) := by omega
      have HI := hid (show i = l.length by omega)
      clear hg
      go_wp2_with fail
      go_ret
      refine ⟨_, rfl, ?_, HF.out⟩
      have h := HO.out
      rw [HI.out, List.take_length] at h
      exact h
    | succ g =>
      have hi : i < l.length := by omega
      have t1 : (i : Int) < (l.length : Int) := by omega
      obtain ⟨g1, rfl, hc1⟩ := AG.out (by rintro rfl; simp at hi)
      have c0 := hc1 i hi
      have b0 := World.block_lt_of_cell? w _ c0
      have hbw := HF.out.below (Nat.le_refl _) (fun _ h => h.elim)
      have c1 : wr.cell? ⟨g1, i, none⟩ = some (.int .i64 (l.getD i 0)) := (hbw.cell (p := ⟨g1, i, none⟩) b0).trans c0
      have b1 := World.block_lt_of_cell? wr _ c1
      dsimp only at b1
      have HSt := hid (del_snoc n l hi)
      have HG := hid hg
      have hsz := HF.out.size
      have hal : (del n (l.take i)).length ≤ 4398046511000 := by
        have h1 : (del n (l.take i)).length ≤ (l.take i).length := List.length_filter_le _ _
        have h2 : (l.take i).length ≤ l.length := by simp; omega
        omega
      generalize l.getD i 0 = x at *
      generalize hdl : del n (l.take i) = acc at *
      clear hg hc1 hbw c0 b0 hi hdl
      by_cases hx : x = n
      · subst hx
        go_wp2_with fail
        go_roundg g
        case rel =>
          refine ⟨i + 1, by simp, by have := HG.out; omega, ?_, HF⟩
          rw [HSt.out, show (if True then ([] : List Int) else [x]) = [] from if_pos trivial, List.append_nil]
          exact HO
        case measure => omega
      · have HX := hid hx
        have d1 : (x != n) = true := by simp [hx]
        go_wp2_with (at_builtin; go_must (refine wpl_app rfl (.tmp 19) (.tmp 24) rfl w.heap.size u5 (.slice (some ⟨wr.heap.size, 0, none⟩) 1 1) acc [x] rfl rfl (HO.out.fr (alloc_fr wr (.cells #[.int .i64 x] 3) (fun _ => False)) (fun _ _ h => h)) (Or.inr ⟨_, _, rfl, cells_newI wr x⟩) ?c1 ?c2 ?_))
        case c1 => first | omega | (simp; omega)
        case c2 => first | omega | (simp; omega)
        intro v3 w3 ho2 hg2 hat
        have HO3 := hid ho2
        have HF3 := hid ((HF.out.alloc (.cells #[.int .i64 x] 3)).grown hg2 (fun k hk e => by have := (World.ownsRow.lt HO.out k e).1; omega))
        clear ho2 hg2 hat
        go_wp2_with fail
        go_roundg g
        case rel =>
          refine ⟨i + 1, by simp, by have := HG.out; omega, ?_, HF3⟩
          rw [HSt.out, if_neg HX.out]
          exact HO3
        case measure => omega

/-- A row of 65 cells. -/
def rowA (f : Nat → Value) : Array Value := ((List.range 65).map f).toArray
theorem rowA_get {f : Nat → Value} {p : Nat} (hp : p < 65) : (rowA f)[p]? = some (f p) := by
  simp [rowA, List.getElem?_map, List.getElem?_range hp]
theorem rowA_set {f : Nat → Value} {p : Nat} {v : Value} (hp : p < 65) : (rowA f).setIfInBounds p v = rowA (upd f p v) := by
  apply Array.ext_getElem?
  intro i
  rw [Array.getElem?_setIfInBounds]
  by_cases hi : i < 65
  · rw [rowA_get hi, rowA_get hi]
    by_cases e : p = i
    · subst e
      simp [rowA, hp, upd]
    · have e' : ¬ i = p := fun x => e x.symm
      simp [e, e', upd]
  · have h1 : (rowA f)[i]? = none := by simp [rowA]; omega
    have h2 : (rowA (upd f p v))[i]? = none := by simp [rowA]; omega
    have e : ¬ p = i := by omega
    simp [e, h1, h2]
/-- The document's book at block C. -/
structure Rb (w : World) (C S I base : Nat) (sv : Nat → Value) (vD vW : Value) (b : Bo) (die : List Int) : Prop where
  cell : w.heap[C]? = some (.cells #[.int .i64 b.pins, .int .i64 b.now, .slice (some ⟨S, 0, none⟩) 65 65, .slice (some ⟨I, 0, none⟩) 65 65, vD, vW, .bool b.begun] 40 (0, 0))
  sc : w.heap[S]? = some (.cells (rowA sv) 38 (0, 0))
  ic : w.heap[I]? = some (.cells (rowA (fun i => .int .i64 (b.inn i))) 3 (0, 0))
  so : ∀ i, i < 65 → OwI w base (sv i) (b.sets i)
  dO : OwI w base vD die
  wO : OwI w base vW (b.sets 66)
  lo : C < base ∧ S < base ∧ I < base ∧ base ≤ w.heap.size
  ne : C ≠ S ∧ C ≠ I ∧ S ≠ I
  z : b.sets 0 = [] ∧ b.inn 0 = 0
theorem Rb.step {w w' : World} {C S I base : Nat} {sv : Nat → Value} {vD vW : Value} {b : Bo} {die : List Int} (h : Rb w C S I base sv vD vW b die) (hf : Fr w w' (fun _ => False)) : Rb w' C S I base sv vD vW b die :=
  ⟨(hf.block C (lt_of_block h.cell) (fun h => h)).trans h.cell, (hf.block S (lt_of_block h.sc) (fun h => h)).trans h.sc, (hf.block I (lt_of_block h.ic) (fun h => h)).trans h.ic,
    fun i hi => (h.so i hi).fr hf (fun _ _ h => h), h.dO.fr hf (fun _ _ h => h), h.wO.fr hf (fun _ _ h => h), ⟨h.lo.1, h.lo.2.1, h.lo.2.2.1, Nat.le_trans h.lo.2.2.2 hf.size⟩, h.ne, h.z⟩
theorem Rb.kb {w w' : World} {C S I base : Nat} {sv : Nat → Value} {vD vW : Value} {b : Bo} {die : List Int} (h : Rb w C S I base sv vD vW b die) (hf : Fr w w' (KB w)) : Rb w' C S I base sv vD vW b die :=
  ⟨kb_stay hf h.cell (by decide), kb_stay hf h.sc (by decide), kb_stay hf h.ic (by decide), fun i hi => kb_ow hf (h.so i hi), kb_ow hf h.dO, kb_ow hf h.wO, ⟨h.lo.1, h.lo.2.1, h.lo.2.2.1, Nat.le_trans h.lo.2.2.2 hf.size⟩, h.ne, h.z⟩
theorem Rb.cells {w : World} {C S I base : Nat} {sv : Nat → Value} {vD vW : Value} {b : Bo} {die : List Int} (h : Rb w C S I base sv vD vW b die) :
    w.cell? ⟨C, 0, none⟩ = some (.int .i64 b.pins) ∧ w.cell? ⟨C, 1, none⟩ = some (.int .i64 b.now) ∧ w.cell? ⟨C, 2, none⟩ = some (.slice (some ⟨S, 0, none⟩) 65 65) ∧ w.cell? ⟨C, 3, none⟩ = some (.slice (some ⟨I, 0, none⟩) 65 65) ∧ w.cell? ⟨C, 4, none⟩ = some vD ∧ w.cell? ⟨C, 5, none⟩ = some vW ∧ w.cell? ⟨C, 6, none⟩ = some (.bool b.begun) := by
  refine ⟨?_, ?_, ?_, ?_, ?_, ?_, ?_⟩ <;> (rw [cell_of_row w C _ _ _ (0, 0) h.cell]; rfl)
theorem Rb.s {w : World} {C S I base : Nat} {sv : Nat → Value} {vD vW : Value} {b : Bo} {die : List Int} (h : Rb w C S I base sv vD vW b die) {i : Nat} (hi : i < 65) : w.cell? ⟨S, i, none⟩ = some (sv i) := by
  rw [cell_of_row w S _ _ _ (0, 0) h.sc]; exact rowA_get hi
theorem Rb.i {w : World} {C S I base : Nat} {sv : Nat → Value} {vD vW : Value} {b : Bo} {die : List Int} (h : Rb w C S I base sv vD vW b die) {i : Nat} (hi : i < 65) : w.cell? ⟨I, i, none⟩ = some (.int .i64 (b.inn i)) := by
  rw [cell_of_row w I _ _ _ (0, 0) h.ic]; exact rowA_get hi

/-- What is held, an owner at a time. -/
def insF (a : List Int) (x : Int) : List Int := ins x a
def hF (b : Bo) : Nat → List Int
  | 0 => []
  | k + 1 => (lst b k).foldl insF (hF b k)
theorem mem_insF {x : Int} : ∀ (l a : List Int), x ∈ l.foldl insF a ↔ x ∈ a ∨ x ∈ l
  | [], a => by simp
  | y :: l, a => by
    simp only [List.foldl_cons, List.mem_cons]
    rw [mem_insF l]
    unfold insF
    rw [mem_ins]
    constructor
    · rintro ((h | h) | h)
      · exact Or.inr (Or.inl h)
      · exact Or.inl h
      · exact Or.inr (Or.inr h)
    · rintro (h | h | h)
      · exact Or.inl (Or.inr h)
      · exact Or.inl (Or.inl h)
      · exact Or.inr h
theorem ri_insF : ∀ (l a : List Int), Ri a → Ri (l.foldl insF a)
  | [], _, h => h
  | y :: l, a, h => ri_insF l (insF a y) (ri_ins h)
theorem len_ins (e : Int) : ∀ (l : List Int), (ins e l).length ≤ l.length + 1
  | [] => by simp [ins]
  | a :: l => by
    unfold ins
    split
    · simp
    · split
      · simp
      · have := len_ins e l; simp; omega
theorem len_insF : ∀ (l a : List Int), (l.foldl insF a).length ≤ a.length + l.length
  | [], a => by simp
  | y :: l, a => by
    have h1 := len_insF l (insF a y)
    have h2 : (insF a y).length ≤ a.length + 1 := len_ins y a
    simp only [List.foldl_cons, List.length_cons]
    omega
theorem mem_hF {b : Bo} {x : Int} : ∀ k, x ∈ hF b k ↔ ∃ i, i < k ∧ x ∈ lst b i
  | 0 => by simp [hF]
  | k + 1 => by
    unfold hF
    rw [mem_insF, mem_hF k]
    constructor
    · rintro (⟨i, hi, h⟩ | h)
      · exact ⟨i, by omega, h⟩
      · exact ⟨k, by omega, h⟩
    · rintro ⟨i, hi, h⟩
      by_cases e : i = k
      · subst e; exact Or.inr h
      · exact Or.inl ⟨i, by omega, h⟩
theorem ri_hF (b : Bo) : ∀ k, Ri (hF b k)
  | 0 => by simp [hF]
  | k + 1 => ri_insF _ _ (ri_hF b k)
theorem len_hF {b : Bo} (h : Wf b) : ∀ k, k ≤ 65 → (hF b k).length ≤ k * 65
  | 0, _ => by simp [hF]
  | k + 1, hk => by
    have h1 := len_hF h k (by omega)
    have h2 := h.lst_len (i := k) (by omega)
    have h3 := len_insF (lst b k) (hF b k)
    show ((lst b k).foldl insF (hF b k)).length ≤ _
    omega
theorem hF_held (b : Bo) : hF b 65 = heldL b := by
  refine ri_ext (ri_hF b 65) (ri_up _) (fun x => ?_)
  rw [mem_hF]
  unfold heldL
  rw [mem_up, List.mem_flatMap]
  constructor
  · rintro ⟨i, hi, h⟩; exact ⟨i, List.mem_range.2 hi, h⟩
  · rintro ⟨i, hi, h⟩; exact ⟨i, List.mem_range.1 hi, h⟩
end Go.Proofs.Ytekooeekaigmaaa.E
