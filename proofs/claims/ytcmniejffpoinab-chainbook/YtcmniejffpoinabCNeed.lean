/- Numbers in memory; chain: needed: a walk. -/
import Derived.Test.YtcmniejffpoinabCUp
import Derived.Deep.OwnRows
namespace Go.Proofs.Ytcmniejffpoinab
open Go.RowKit

/-- Numbers that can be read at a slice. -/
def Is (w : World) (v : Value) (xs : List Int) : Prop :=
  ∃ ao cap, v = .slice ao xs.length cap ∧ xs.length ≤ 9223372036854775807 ∧ (∀ x ∈ xs, fits x) ∧ (xs ≠ [] → ∃ (b off : Nat), ao = some ⟨b, off, none⟩ ∧ ∀ i, i < xs.length → w.cell? ⟨b, off + i, none⟩ = some (.int .i64 (xs.getD i 0)))
theorem Is.fr {w w' : World} {v : Value} {xs : List Int} (h : Is w v xs) (hf : Fr w w' (fun _ => False)) : Is w' v xs := by
  obtain ⟨ao, cap, rfl, hlen, hfit, hcell⟩ := h
  refine ⟨ao, cap, rfl, hlen, hfit, fun hne => ?_⟩
  obtain ⟨b, off, rfl, hc⟩ := hcell hne
  refine ⟨b, off, rfl, fun i hi => ?_⟩
  have h0 := hc i hi
  rw [(fr_rules hf).1 b (off + i) (World.block_lt_of_cell? w _ h0)]
  exact h0

/-- Booleans in a block of their own. -/
def bv (l : List Bool) : List Value := l.map Value.bool
theorem bv_length (l : List Bool) : (bv l).length = l.length := by simp [bv]
def RowB (w : World) (N : Nat) (l : List Bool) : Prop := w.heap[N]? = some (.cells (bv l).toArray 4 (0, 0))
theorem RowB.lt {w : World} {g : Nat} {l : List Bool} (h : RowB w g l) : g < w.heap.size := lt_of_block h
theorem RowB.fr {w w' : World} {S : Nat → Prop} {g : Nat} {l : List Bool} (h : RowB w g l) (hf : Fr w w' S) (hS : ¬ S g) : RowB w' g l := by
  unfold RowB
  rw [hf.block g h.lt hS]
  exact h
theorem RowB.free {w : World} {g : Nat} {l : List Bool} (h : RowB w g l) (o : Nat) : w.frozen? ⟨g, o, none⟩ = false := by
  have h' : w.heap[g]? = some (.cells (bv l).toArray 4 (0, 0)) := h
  simp [World.frozen?, h']
theorem RowB.cell {w : World} {g : Nat} {l : List Bool} (h : RowB w g l) (j : Nat) (hj : j < l.length) : w.cell? ⟨g, j, none⟩ = some (.bool (l.getD j false)) := by
  rw [cell_of_row w g j _ _ (0, 0) h]
  simp [bv, List.getD, hj]
theorem RowB.set {w : World} {g : Nat} {l : List Bool} (h : RowB w g l) (j : Nat) (b : Bool) : RowB (w.setCell ⟨g, j, none⟩ (.bool b)) g (l.set j b) := by
  unfold RowB
  rw [heap_setCell_same w g j _ _ _ h]
  congr 2
  apply Array.ext'
  simp [bv]
theorem getD_setb (l : List Bool) (x d : Bool) (i j : Nat) (hi : i < l.length) : (l.set i x).getD j d = if j = i then x else l.getD j d := by
  by_cases h : j = i
  · subst h
    simp [List.getD, hi]
  · rw [if_neg h]
    simp [List.getD, Ne.symm h]

theorem Try.info_bool : (Try.prog.info? 4).map (fun i => (i.zero, i.size, i.bytes)) = some (some (.bool false), 1, 1) := by kernel_rfl
theorem made_rowb (n : Nat) : (madeCells #[Value.bool false] n).toList = bv (List.replicate n false) := by
  apply List.ext_getElem
  · simp [madeCells, bv]
  · intro i h1 h2
    simp [madeCells, Nat.mod_one, bv]

theorem made_rowa (n : Nat) : madeCells #[Value.bool false] n = (bv (List.replicate n false)).toArray := by
  apply Array.ext'
  rw [made_rowb]

/-- What the marks are when some of the held epochs have been asked. -/
def Mk (L : List Vn) (xs : List Int) (l : List Bool) : Prop := l.length = L.length ∧ ∀ k, k < L.length → l.getD k false = xs.any (fun h => decide (up L h = k + 1))
theorem Mk.zero (L : List Vn) : Mk L [] (List.replicate L.length false) := ⟨by simp, fun k hk => by simp [List.getD, hk]⟩
theorem take_snoc (xs : List Int) (i : Nat) (hi : i < xs.length) : xs.take (i + 1) = xs.take i ++ [xs.getD i 0] := by
  rw [List.take_add_one]
  simp [List.getD, hi]
theorem Mk.none {L : List Vn} {xs : List Int} {l : List Bool} (h : Mk L xs l) {x : Int} (hx : up L x = 0) : Mk L (xs ++ [x]) l := ⟨h.1, fun k hk => by rw [h.2 k hk, List.any_append]; simp [hx]⟩
theorem Mk.one {L : List Vn} {xs : List Int} {l : List Bool} (h : Mk L xs l) {x : Int} {n : Nat} (hx : up L x = n + 1) : Mk L (xs ++ [x]) (l.set n true) := by
  have hn : n < L.length := by have := up_le L x; omega
  refine ⟨by simp [h.1], fun k hk => ?_⟩
  rw [getD_setb _ _ _ _ _ (by rw [h.1]; exact hn), List.any_append, h.2 k hk]
  by_cases hkn : k = n
  · rw [if_pos hkn]
    simp [hx, hkn]
  · rw [if_neg hkn]
    simp [hx, Ne.symm hkn]
theorem Mk.done {L : List Vn} {xs : List Int} {l : List Bool} (h : Mk L xs l) : (L = [] → l.length = L.length ∧ ∀ k, k < L.length → l.getD k false = need xs L k) ∧ (L ≠ [] → (l.set (L.length - 1) true).length = L.length ∧ ∀ k, k < L.length → (l.set (L.length - 1) true).getD k false = need xs L k) := by
  refine ⟨fun h0 => ⟨h.1, fun k hk => by subst h0; simp at hk⟩, fun h0 => ⟨by simp [h.1], fun k hk => ?_⟩⟩
  rw [getD_setb _ _ _ _ _ (by rw [h.1]; omega), h.2 k hk]
  unfold need
  by_cases hkn : k = L.length - 1
  · rw [if_pos hkn]
    have : decide (k + 1 = L.length) = true := by simp; omega
    rw [this]
    rfl
  · rw [if_neg hkn]
    have : decide (k + 1 = L.length) = false := by simp; omega
    rw [this]
    rfl

/-- What stands in the rounds of needed. -/
structure NI (w wx : World) (L : List Vn) (xs : List Int) (i : Nat) : Prop where
  fr : Fr w wx (fun _ => False)
  row : ∃ l, RowB wx w.heap.size l ∧ Mk L (xs.take i) l

set_option maxHeartbeats 2000000 in
theorem needed_any {base B : Nat} {v hv : Value} {L : List Vn} {xs : List Int} (w : World) (h : Ch w base B v L) (hI : Is w hv xs) :
    Calls Try.prog 18 #[.pointer (some ⟨B, 0, none⟩), hv] w fun r w' => r = .returned (.slice (some ⟨w.heap.size, 0, none⟩) L.length L.length) ∧ Fr w w' (fun _ => False) ∧ ∃ l, RowB w' w.heap.size l ∧ l.length = L.length ∧ ∀ k, k < L.length → l.getD k false = need xs L k := by
  have hc := cell_of_one h.cell
  have hlt := h.lt
  have HCh := hid h
  have HIs := hid hI
  have hlen := h.len
  obtain ⟨ao, cap, rfl, _⟩ := own_shape h.own
  obtain ⟨ai, ci, rfl, hil, hfit, hcell⟩ := hI
  have HCell := hid hcell
  have HMK := hid (run_make_row' (P := Try.prog) 51 4 (.bool false) 1 Try.underlying51 Try.info_bool rfl .i64 .i64 L.length (by omega) (by omega) w)
  have hmk := HMK.out
  clear h hfit hcell
  go_enter Try.func18, Try.ntmps18
  go_wp2_with fail
  have HN0 : Hid (NI w (w.alloc (.cells (madeCells #[Value.bool false] L.length) 4)) L xs 0) := ⟨alloc_fr _ _ _, _, by
    unfold RowB
    rw [heap_last _ _ _ rfl, made_rowa], Mk.zero L⟩
  clear hmk HMK
  generalize w.alloc (.cells (madeCells #[Value.bool false] L.length) 4) = w0 at *
  go_loopg [18] xs.length (fun g s18 wx => ∃ i : Nat, s18 = .int .i64 (i : Int) ∧ i + g = xs.length ∧ Hid (NI w wx L xs i))
  case atStart => exact ⟨0, rfl, by omega, HN0⟩
  case round =>
    obtain ⟨i, rfl, hg, HN⟩ := hrel
    clear HN0
    cases gk with
    | zero =>
      have t1 : ¬ (i : Int) < (xs.length : Int) := by omega
      have HE := hid (show i = xs.length by omega)
      clear hg
      obtain ⟨l, hr, hm⟩ := HN.out.row
      have HM := hid hm
      have HR := hid hr
      have hl := hm.1
      by_cases hL : L.length = 0
      · have t2 : ¬ (0 : Int) < (L.length : Int) := by omega
        have HL := hid hL
        clear hL hr hm hl
        go_wp2_with fail
        go_ret
        refine ⟨rfl, HN.out.fr, l, HR.out, ?_⟩
        have := HM.out
        rw [HE.out, List.take_length] at this
        exact this.done.1 (List.eq_nil_of_length_eq_zero HL.out)
      · have t2 : (0 : Int) < (L.length : Int) := by omega
        have t3 : 0 ≤ (L.length : Int) - 1 := by omega
        have t4 : (L.length : Int) - 1 < (L.length : Int) := by omega
        have hcl := hr.cell (L.length - 1) (by omega)
        have hfz := hr.free (L.length - 1)
        have hltr := hr.lt
        have HL := hid hL
        clear hL hr hm hl
        go_wp2_with fail
        go_ret
        refine ⟨rfl, HN.out.fr.setCell (p := ⟨w.heap.size, _, none⟩) (fun h => absurd h (Nat.lt_irrefl _)) _, _, HR.out.set (L.length - 1) true, ?_⟩
        have := HM.out
        rw [HE.out, List.take_length] at this
        exact this.done.2 (fun e => HL.out (by rw [e]; rfl))
    | succ g =>
      have hi : i < xs.length := by omega
      have t1 : (i : Int) < (xs.length : Int) := by omega
      have HG := hid hg
      have HI := hid hi
      clear hg
      obtain ⟨b, off, rfl, hck⟩ := HCell.out (by rintro rfl; simp at hi)
      have hx := hck i hi
      have hbl := World.block_lt_of_cell? w _ hx
      dsimp only at hbl
      have hx1 : wr.cell? ⟨b, off + i, none⟩ = some (.int .i64 (xs.getD i 0)) := by rw [(fr_rules HN.out.fr).1 _ _ hbl]; exact hx
      have HU := hid (fun (x : Int) => upTo_any x wr (HCh.out.step HN.out.fr))
      have HX := hid (take_snoc xs i hi)
      clear hx hck hi
      generalize xs.getD i 0 = x at *
      have HUL := hid (up_le L x)
      cases hn : up L x with
      | zero =>
        have HNn := hid hn
        have HUx := hid (HU.out x)
        rw [hn] at HUx
        clear hn HU
        go_wp2_with fail
        refine HUx.out.mono ?_
        rintro r w1 ⟨rfl, hf1⟩
        have HN1 : Hid (NI w w1 L xs (i + 1)) := by
          obtain ⟨l, hr, hm⟩ := HN.out.row
          exact ⟨HN.out.fr.trans hf1, l, hr.fr hf1 (fun h => h), by rw [HX.out]; exact hm.none HNn.out⟩
        clear hf1
        go_wp2_with fail
        go_roundg g
        case measure => omega
        case rel => exact ⟨i + 1, by go_num, by have := HG.out; omega, HN1⟩
      | succ n =>
        have HNn := hid hn
        have HUx := hid (HU.out x)
        rw [hn] at HUx HUL
        have hnl := HUL.out
        clear hn HU
        have t2 : (0 : Int) < ((n + 1 : Nat) : Int) := by omega
        have t3 : ((n + 1 : Nat) : Int) - 1 = (n : Int) := by omega
        have t4 : (n : Int) < (L.length : Int) := by omega
        go_wp2_with fail
        refine HUx.out.mono ?_
        rintro r w1 ⟨rfl, hf1⟩
        obtain ⟨l, hr0, hm⟩ := HN.out.row
        have hr := hr0.fr hf1 (fun h => h)
        have hl := hm.1
        have HM := hid hm
        have HR := hid hr
        have hcl := hr.cell n (by omega)
        have hfz := hr.free n
        have hltr := hr.lt
        have HF1 := hid (HN.out.fr.trans hf1)
        clear hf1 hr hr0 hm hl
        go_wp2_with fail
        go_roundg g
        case measure => omega
        case rel => exact ⟨i + 1, by go_num, by have := HG.out; omega, HF1.out.setCell (p := ⟨w.heap.size, _, none⟩) (fun h => absurd h (Nat.lt_irrefl _)) _, _, HR.out.set n true, by rw [HX.out]; exact HM.out.one HNn.out⟩
end Go.Proofs.Ytcmniejffpoinab
