/- The law's room and still: walks. -/
import Derived.Test.YtmfkccdlblebjabALeast
import Derived.Deep.DeepAppendRoom
import Derived.Laws.AppendOwnNone
import Derived.Deep.Slices
import Derived.WalkSmall
import Derived.Deep.QuietTactic
import Derived.BigQuiet
import Derived.Deep.DeepMust
import Derived.OwnWalk
import Derived.Deep.DeepCutAuto
namespace Go.Proofs.Ytmfkccdlblebjab
open Go.RowKit Go.ChangeShapes Go.WideShapes Go.ChangeAt

/-- Numbers as values. -/
def iv (l : List Int) : List Value := l.map (Value.int .i64)
theorem iv_length (l : List Int) : (iv l).length = l.length := by simp [iv]
theorem iv_append (a b : List Int) : iv (a ++ b) = iv a ++ iv b := by simp [iv]
theorem iv_get (l : List Int) (j : Nat) (h : j < l.length) : (iv l)[j]? = some (.int .i64 (l.getD j 0)) := by simp [iv, List.getD, h]
theorem iv_one (l : List Int) : ∀ u ∈ iv l, u.oneCell' = true := by
  intro u hu
  simp only [iv, List.mem_map] at hu
  obtain ⟨c, _, rfl⟩ := hu
  rfl

/-- A nil slice is empty. -/
def Nz (v : Value) : Prop := ∀ n cap, v = .slice none n cap → n = 0 ∧ cap = 0
theorem nz_of_trod {H : Type} {enc : TypeId × Value → H} {W : World} {base : Nat} {held : Bool} {fuel : Nat} {a0 : Option Addr} {len cap : Nat} {x : DataW H × List MemPlace} (h : DataW.trod enc Try.prog W base (fun _ => true) held fuel 22 [.slice a0 len cap] = some x) : Nz (.slice a0 len cap) := by
  rcases open_ints Try.underlying22 Try.underlying2 Try.cells_i64 h with ⟨hcs, hx⟩ | ⟨a, len', cap', zs, hcs, _, hl, hm, hz, hx, hcell, hwz⟩
  · simp at hcs
    obtain ⟨rfl, rfl, rfl⟩ := hcs
    intro n c e
    cases e
    exact ⟨rfl, rfl⟩
  · simp at hcs
    obtain ⟨rfl, rfl, rfl⟩ := hcs
    intro n c e
    cases e

/-- Block N holds just these values. -/
def RowV (w : World) (N : Nat) (vs : List Value) : Prop := w.heap[N]? = some (.cells vs.toArray 2 (0, 0))
theorem RowV.lt {w : World} {g : Nat} {vs : List Value} (h : RowV w g vs) : g < w.heap.size := lt_of_block h
theorem RowV.fr {w w' : World} {S : Nat → Prop} {g : Nat} {vs : List Value} (h : RowV w g vs) (hf : Fr w w' S) (hS : ¬ S g) : RowV w' g vs := by
  unfold RowV
  rw [hf.block g h.lt hS]
  exact h
theorem RowV.free {w : World} {g : Nat} {vs : List Value} (h : RowV w g vs) (o : Nat) : w.frozen? ⟨g, o, none⟩ = false := by
  have h' : w.heap[g]? = some (.cells vs.toArray 2 (0, 0)) := h
  simp [World.frozen?, h']
theorem RowV.cell {w : World} {g : Nat} {vs : List Value} (h : RowV w g vs) (j : Nat) : w.cell? ⟨g, j, none⟩ = vs[j]? := by
  rw [cell_of_row w g j _ _ (0, 0) h]
  simp
theorem RowV.set {w : World} {g : Nat} {vs : List Value} (h : RowV w g vs) (j : Nat) (u : Value) : RowV (w.setCell ⟨g, j, none⟩ u) g (vs.set j u) := by
  unfold RowV
  rw [heap_setCell_same w g j _ _ _ h]
  congr 2
  apply Array.ext'
  simp

theorem Try.info_i64 : (Try.prog.info? 2).map (fun i => (i.zero, i.size, i.bytes)) = some (some (.int .i64 0), 1, 8) := by kernel_rfl

/-- An owned row with room: its block, whole. -/
theorem own_room {w : World} {base g n cap : Nat} {vs : List Value} (h : w.ownsRow base 2 1 (.slice (some ⟨g, 0, none⟩) n cap) n vs) : ∃ rest, RowV w g (vs ++ rest) ∧ rest.length + n = cap := by
  have hl : vs.length = n := by simpa using h.1
  rcases h.2 with ⟨h', _⟩ | ⟨g', cap', cur, h', _, hg, hn, _, hcs, htake⟩
  · simp at h'
  · simp only [Value.slice.injEq, Option.some.injEq, Addr.mk.injEq, and_true, true_and] at h'
    obtain ⟨rfl, rfl⟩ := h'
    refine ⟨cur.toList.drop n, ?_, ?_⟩
    · unfold RowV
      rw [hg]
      congr 2
      apply Array.ext'
      rw [List.toList_toArray]
      have e : vs = cur.toList.take n := by rw [← htake, Nat.mul_one]
      rw [e, List.take_append_drop]
    · simp at hcs
      simp
      omega

theorem set_mark (l : List Int) (j : Nat) (rest : List Value) (x : Value) : (iv (l ++ List.replicate j (-77)) ++ x :: rest).set (l.length + j) (.int .i64 (-77)) = iv (l ++ List.replicate (j + 1) (-77)) ++ rest := by
  rw [List.set_append_right _ _ (by simp [iv])]
  have e : l.length + j - (iv (l ++ List.replicate j (-77))).length = 0 := by simp [iv]
  rw [e, List.set_cons_zero, List.replicate_succ', ← List.append_assoc, iv_append]
  simp [iv]

set_option maxHeartbeats 1000000 in
theorem room_any (v : Value) (xs : List Int) (w : World) (hv : Is w v xs) (hn : Nz v) (h5 : xs.length ≤ 5000) :
    Calls Try.prog 15 #[v] w fun e w' => e = .returned (.slice (some ⟨w.heap.size, 0, none⟩) xs.length (xs.length + 4)) ∧ RowV w' w.heap.size (iv (xs ++ [-77, -77, -77, -77])) ∧ Fr w w' (fun _ => False) := by
  obtain ⟨i0, hi, hz0, hz1, hz2⟩ := info_parts Try.info_i64
  obtain ⟨ao, cap, rfl, hlen, hfit, hcell⟩ := hv
  have HC := hid hcell
  have HN := hid hn
  clear hcell hfit hn
  go_enter Try.func15, Try.ntmps15
  go_upto_region 2 with (at_make; go_must (refine wpList_make_own _ rfl (.const (.int .i64 0)) (.tmp 8) 22 rfl w.heap.size 2 i0 (.int .i64 0) 1 Try.underlying22 hi hz0 hz1 .i64 .i64 _ (xs.length + 4) rfl rfl (by omega) (by rw [hz2]; omega) (by unfold maxLen; omega) (Nat.le_refl _) ?_); intro w1 hown1 hgrow1; have HF1 := hid ((Fr.refl w (fun _ => False)).grown hgrow1 (fun k _ h => by cases h)); have HO1 := hid hown1; clear hown1 hgrow1)
  go_cut [3] (fun s wx => s = .slice (some ⟨w.heap.size, 0, none⟩) xs.length (xs.length + 4) ∧ Hid (Fr w wx (fun _ => False) ∧ ∃ rest, RowV wx w.heap.size (iv xs ++ rest) ∧ rest.length = 4))
  case first =>
    match ao with
    | none =>
      obtain ⟨hx0, rfl⟩ := HN.out _ _ rfl
      have hx : xs = [] := List.eq_nil_of_length_eq_zero hx0
      subst hx
      go_wp2_with (at_builtin; go_must (refine wpList_append_own_none rfl (.tmp 10) (.tmp 11) 22 rfl w.heap.size 2 i0 1 Try.underlying22 hi _ 0 [] rfl HO1.out rfl ?_))
      go_meet
      refine ⟨rfl, hid ⟨HF1.out, ?_⟩⟩
      obtain ⟨rest, h1, h2⟩ := own_room HO1.out
      exact ⟨rest, h1, by simpa using h2⟩
    | some ad =>
      have hnews : ∀ j u, (iv xs)[j]? = some u → w1.cell? (ad.add j) = some u := by
        intro j u hu
        have hj : j < xs.length := by
          rcases Nat.lt_or_ge j xs.length with h | h
          · exact h
          · rw [List.getElem?_eq_none (by rw [iv_length]; exact h)] at hu
            cases hu
        obtain ⟨b, off, e, hck⟩ := HC.out (by intro e; subst e; simp at hj)
        cases e
        rw [Addr.add_lit, (fr_rules HF1.out).1 b (off + j) (World.block_lt_of_cell? w _ (hck j hj)), hck j hj, ← hu, iv_get xs j hj]
      have HNW := hid hnews
      clear hnews
      go_wp2_with (at_builtin; go_must (refine wpList_append_own_spare _ rfl (.tmp 10) (.tmp 11) 22 rfl w.heap.size 2 i0 1 Try.underlying22 hi hz1 w.heap.size 0 (xs.length + 4) [] rfl HO1.out ad xs.length cap (iv xs) rfl (by rw [iv_length, Nat.mul_one]) HNW.out (iv_one xs) (by omega) ?_))
      intro w2 hown2 hgrow2
      have HF2 := hid (HF1.out.grown hgrow2 (fun k hk h => by cases h; omega))
      have HO2 := hid hown2
      clear hown2 hgrow2
      go_wp2_with fail
      go_meet
      refine ⟨rfl, hid ⟨HF2.out, ?_⟩⟩
      obtain ⟨rest, h1, h2⟩ := own_room HO2.out
      exact ⟨rest, h1, by omega⟩
  case rest =>
    obtain ⟨rfl, HH⟩ := hcut
    go_wp2_with fail
    go_loopw [5] (fun i wr => ∃ j : Nat, j ≤ 4 ∧ i = .int .i64 ((xs.length + j : Nat) : Int) ∧ Hid (Fr w wr (fun _ => False) ∧ ∃ rest, RowV wr w.heap.size (iv (xs ++ List.replicate j (-77)) ++ rest) ∧ rest.length + j = 4)) (fun i _ => xs.length + 4 - (intOf i).toNat)
    case atStart =>
      refine ⟨0, by omega, rfl, hid ⟨HH.out.1, ?_⟩⟩
      obtain ⟨rest, h1, h2⟩ := HH.out.2
      exact ⟨rest, by simpa using h1, by omega⟩
    case round =>
      obtain ⟨j, hj, rfl, HR⟩ := hrel
      obtain ⟨hfr, rest, hrow, hrl⟩ := HR.out
      have HF := hid hfr
      clear hfr HR HH
      by_cases hlt : j < 4
      · cases rest with
        | nil => simp at hrl; omega
        | cons x rest =>
          have hrl' : rest.length + (j + 1) = 4 := by simp at hrl; omega
          have hc : wr.cell? ⟨w.heap.size, xs.length + j, none⟩ = some x := by
            rw [hrow.cell, List.getElem?_append_right (by simp [iv])]
            simp [iv]
          have hfz := hrow.free
          have HRW := hid (hrow.set (xs.length + j) (.int .i64 (-77)))
          rw [set_mark] at HRW
          clear hrow
          have t1 : ((xs.length : Int) + (j : Int)) < (xs.length : Int) + 4 := by omega
          have t2 : (j : Int) < 4 := by omega
          go_wp2_with fail
          go_roundw
          case rel => exact ⟨j + 1, by omega, by go_num, hid ⟨HF.out.setCell (fun h => by simp at h) _, rest, HRW.out, hrl'⟩⟩
          case measure => simp [intOf]; omega
      · have t1 : ¬ ((xs.length : Int) + (j : Int)) < (xs.length : Int) + 4 := by omega
        have t2 : ¬ (j : Int) < 4 := by omega
        have hj4 : j = 4 := by omega
        have hr0 : rest = [] := List.eq_nil_of_length_eq_zero (by omega)
        have HRW := hid hrow
        rw [hr0, hj4, List.append_nil] at HRW
        clear hrow hrl hr0
        go_wp2_with fail
        go_ret
        exact ⟨rfl, HRW.out, HF.out⟩

theorem mark_get (xs : List Int) (k : Nat) (h1 : xs.length ≤ k) (h2 : k < xs.length + 4) : (iv (xs ++ [-77, -77, -77, -77]))[k]? = some (.int .i64 (-77)) := by
  rw [iv_append, List.getElem?_append_right (by rw [iv_length]; exact h1), iv_length]
  obtain ⟨j, hj⟩ : ∃ j, j = k - xs.length := ⟨_, rfl⟩
  rw [← hj]
  match j, (show j < 4 by omega) with
  | 0, _ => rfl
  | 1, _ => rfl
  | 2, _ => rfl
  | 3, _ => rfl
theorem front_get (xs ys : List Int) (k : Nat) (h : k < xs.length) : (iv (xs ++ ys))[k]? = some (.int .i64 (xs.getD k 0)) := by
  rw [iv_append, List.getElem?_append_left (by rw [iv_length]; exact h), iv_get xs k h]

set_option maxHeartbeats 1000000 in
theorem still_any (v : Value) (xs : List Int) (N : Nat) (w : World) (hv : Is w v xs) (hr : RowV w N (iv (xs ++ [-77, -77, -77, -77]))) (h5 : xs.length ≤ 5000) :
    Calls Try.prog 18 #[.slice (some ⟨N, 0, none⟩) xs.length (xs.length + 4), v] w fun e w' => e = .returned (.bool true) ∧ ∃ m, w' = w.drewN m := by
  obtain ⟨ao, cap, rfl, hlen, hfit, hcell⟩ := hv
  have HC := hid hcell
  have HR := hid hr
  clear hcell hfit hr
  go_enter Try.func18, Try.ntmps18
  go_wp2_with fail
  go_loopw [6] (fun i wr => ∃ k m : Nat, k ≤ xs.length + 4 ∧ i = .int .i64 (k : Int) ∧ wr = w.drewN m) (fun i _ => xs.length + 4 - (intOf i).toNat)
  case atStart => exact ⟨0, 0, by omega, rfl, rfl⟩
  case round =>
    obtain ⟨k, m, hk, rfl, rfl⟩ := hrel
    by_cases hlt : k < xs.length + 4
    · have t0 : (k : Int) < (xs.length : Int) + 4 := by omega
      by_cases hx : k < xs.length
      · have t1 : (k : Int) < (xs.length : Int) := by omega
        obtain ⟨b, off, rfl, hck⟩ := HC.out (by intro e; subst e; simp at hx)
        have c1 := hck k hx
        have c2 : w.cell? ⟨N, k, none⟩ = some (.int .i64 (xs.getD k 0)) := by rw [HR.out.cell, front_get _ _ _ hx]
        generalize xs.getD k 0 = x at *
        clear hck
        have b1 : decide ((k : Int) < (xs.length : Int)) = true := by simpa using hx
        have b2 : decide ((xs.length : Int) ≤ (k : Int)) = false := by simp; omega
        have b3 : decide (xs.length ≤ k) = false := by simp; omega
        go_wp2_with fail
        go_quiet (fail)
        go_wp2_with fail
        go_roundw
        case rel => exact ⟨k + 1, _, by omega, by go_num, rfl⟩
        case measure => simp [intOf]; omega
      · have t1 : ¬ (k : Int) < (xs.length : Int) := by omega
        have c2 : w.cell? ⟨N, k, none⟩ = some (.int .i64 (-77)) := by rw [HR.out.cell, mark_get xs k (by omega) hlt]
        have b1 : decide ((k : Int) < (xs.length : Int)) = false := by simpa using hx
        have b2 : decide ((xs.length : Int) ≤ (k : Int)) = true := by simp; omega
        have b3 : decide (xs.length ≤ k) = true := by simp; omega
        go_wp2_with fail
        go_quiet (fail)
        go_wp2_with fail
        go_roundw
        case rel => exact ⟨k + 1, _, by omega, by go_num, rfl⟩
        case measure => simp [intOf]; omega
    · have t0 : ¬ (k : Int) < (xs.length : Int) + 4 := by omega
      go_wp2_with fail
      go_ret
      exact ⟨rfl, m, rfl⟩
end Go.Proofs.Ytmfkccdlblebjab
