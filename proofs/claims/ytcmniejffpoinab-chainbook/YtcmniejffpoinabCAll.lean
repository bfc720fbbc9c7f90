/- chain: All: what it hands out. -/
import Derived.Test.YtcmniejffpoinabCWalk1
import Derived.Deep.DeepAppendRoom
import Derived.OwnWalk
import Derived.Deep.DeepMust
namespace Go.Proofs.Ytcmniejffpoinab
open Go.RowKit

/-- Stamps as values. -/
def sc : List Vn → List Value
  | [] => []
  | x :: L => .int .i64 x.e :: .bool x.t :: sc L
theorem sc_append (a b : List Vn) : sc (a ++ b) = sc a ++ sc b := by
  induction a with
  | nil => rfl
  | cons x a ih => simp [sc, ih]
theorem sc_get : ∀ (L : List Vn) (i : Nat), i < L.length → (sc L)[i * 2]? = some (.int .i64 (L.getD i z0).e) ∧ (sc L)[i * 2 + 1]? = some (.bool (L.getD i z0).t)
  | [], i, h => by simp at h
  | x :: L, 0, _ => ⟨rfl, rfl⟩
  | x :: L, i + 1, h => by
    have := sc_get L i (by simpa using h)
    rw [show (i + 1) * 2 = i * 2 + 2 by omega]
    simpa [sc] using this
theorem takeV_snoc (L : List Vn) (i : Nat) (hi : i < L.length) : L.take (i + 1) = L.take i ++ [L.getD i z0] := by
  rw [List.take_add_one]
  simp [List.getD, hi]

/-- The stamps that a sequence goes over: the slice's variable at N, the row at S. -/
structure Sq (w : World) (N S : Nat) (L : List Vn) : Prop where
  cell : w.heap[N]? = some (.cells #[.slice (some ⟨S, 0, none⟩) L.length L.length] 54 (0, 0))
  row : ∀ i, i < L.length → w.cell? ⟨S, i * 2, none⟩ = some (.int .i64 (L.getD i z0).e) ∧ w.cell? ⟨S, i * 2 + 1, none⟩ = some (.bool (L.getD i z0).t)
  len : L.length ≤ 1000000
  blk : ∃ cs, w.heap[S]? = some (.cells cs 46 (0, 0))
theorem Sq.fr {w w' : World} {T : Nat → Prop} {N S : Nat} {L : List Vn} (h : Sq w N S L) (hf : Fr w w' T) (hN : ¬ T N) (hS : ¬ T S) : Sq w' N S L := by
  obtain ⟨cs, hcs⟩ := h.blk
  have hb := hf.block S (lt_of_block hcs) hS
  refine ⟨(hf.block N (lt_of_block h.cell) hN).trans h.cell, fun i hi => ?_, h.len, ⟨cs, hb.trans hcs⟩⟩
  rw [World.cell?_of_block (w := w) (a := ⟨S, i * 2, none⟩) hb, World.cell?_of_block (w := w) (a := ⟨S, i * 2 + 1, none⟩) hb]
  exact h.row i hi

theorem Try.info_st : (Try.prog.info? 46).map (fun i => (i.zero, i.size, i.bytes)) = some (some (.agg #[.int .i64 0, .bool false]), 2, 16) := by kernel_rfl
theorem two_new (w : World) (a b : Value) (e : TypeId) : ∀ (j : Nat) (u : Value), [a, b][j]? = some u → (w.alloc (.cells #[a, b] e)).cell? ((⟨w.heap.size, 0, none⟩ : Addr).add j) = some u := by
  intro j u hj
  match j, hj with
  | 0, hj => simp at hj; subst hj; simp [Addr.add]
  | 1, hj => simp at hj; subst hj; simp [Addr.add]

/-- What stands in the rounds of All. -/
structure AI (w wx : World) (N : Nat) (L : List Vn) (i : Nat) : Prop where
  fr : Fr w wx (fun _ => False)
  lt : w.heap.size < N
  cell : wx.heap[N]? = some (.cells #[.slice (some ⟨w.heap.size, 0, none⟩) i L.length] 54 (0, 0))
  own : wx.ownsRow w.heap.size 46 2 (.slice (some ⟨w.heap.size, 0, none⟩) i L.length) i (sc (L.take i))
theorem AI.put {w wx wy : World} {N : Nat} {L : List Vn} {i : Nat} (h : AI w wx N L i) (hi : i < L.length) (hf : Fr wx wy (fun q => q = w.heap.size)) (ho : wy.ownsRow w.heap.size 46 2 (.slice (some ⟨w.heap.size, 0, none⟩) (i + 1) L.length) (i + 1) (sc (L.take i) ++ [.int .i64 (L.getD i z0).e, .bool (L.getD i z0).t])) : AI w (wy.setCell ⟨N, 0, none⟩ (.slice (some ⟨w.heap.size, 0, none⟩) (i + 1) L.length)) N L (i + 1) := by
  have hlt := h.lt
  have hc := (hf.block N (lt_of_block h.cell) (by omega)).trans h.cell
  refine ⟨?_, hlt, one_setCell hc, ?_⟩
  · exact (h.fr.trans2 hf (fun q hq e => by omega)).setCell (p := ⟨N, 0, none⟩) (fun e => by simp at e; omega) _
  · have := ownsRow_setCell_other (a := ⟨N, 0, none⟩) ho (by simp [Value.ownBlock]; omega) (.slice (some ⟨w.heap.size, 0, none⟩) (i + 1) L.length)
    rw [takeV_snoc L i hi, sc_append]
    exact this
theorem AI.cells {w wx : World} {N : Nat} {L : List Vn} {i : Nat} (h : AI w wx N L i) : wx.cell? ⟨N, 0, none⟩ = some (.slice (some ⟨w.heap.size, 0, none⟩) i L.length) ∧ wx.frozen? ⟨N, 0, none⟩ = false ∧ N < wx.heap.size := ⟨cell_of_one h.cell, free_of_one h.cell, lt_of_block h.cell⟩
theorem AI.done {w wx : World} {N : Nat} {L : List Vn} (h : AI w wx N L L.length) (hl : L.length ≤ 1000000) : Sq wx N w.heap.size L := by
  have ho := h.own
  rw [List.take_length] at ho
  have hblk : ∃ cs, wx.heap[w.heap.size]? = some (.cells cs 46 (0, 0)) := by
    rcases h.own.2 with ⟨e, _⟩ | ⟨g, cap', cur, e, _, hg, _⟩
    · simp at e
    · simp only [Value.slice.injEq, Option.some.injEq, Addr.mk.injEq, and_true, true_and] at e
      obtain ⟨rfl, _⟩ := e
      exact ⟨_, hg⟩
  refine ⟨h.cell, fun i hi => ?_, hl, hblk⟩
  obtain ⟨h1, h2⟩ := sc_get L i hi
  have c1 := ho.cells (g := w.heap.size) rfl _ _ h1
  have c2 := ho.cells (g := w.heap.size) rfl _ _ h2
  rw [Addr.add_lit, Nat.zero_add] at c1 c2
  exact ⟨c1, c2⟩

set_option maxHeartbeats 2000000 in
set_option maxRecDepth 100000 in
theorem all_any {base B : Nat} {v : Value} {L : List Vn} (w : World) (h : Ch w base B v L) :
    Calls Try.prog 12 #[.pointer (some ⟨B, 0, none⟩)] w fun r w' => ∃ N, r = .returned (.func (.func 20) #[] #[.pointer (some ⟨N, 0, none⟩)]) ∧ w.heap.size < N ∧ Sq w' N w.heap.size L ∧ Fr w w' (fun _ => False) := by
  obtain ⟨i0, hi0, hz0, hz1, hz2⟩ := info_parts Try.info_st
  have hc := cell_of_one h.cell
  have hlt := h.lt
  have HCh := hid h
  have hlen := h.len
  obtain ⟨ao, cap, rfl, _⟩ := own_shape h.own
  have HV := hid h.vs
  clear h
  go_enter Try.func12, Try.ntmps12
  go_wp2_with (at_make; go_must (refine wpList_make_own _ rfl (.const (.int .i64 0)) (.tmp 10) 54 rfl w.heap.size 46 i0 _ 2 Try.underlying54 hi0 hz0 hz1 .i64 .i64 _ L.length rfl rfl rfl (by rw [hz2]; omega) (by unfold maxLen; omega) (Nat.le_refl _) ?_); intro w1 hown1 hgrow1; have HF1 := hid ((Fr.refl w (fun _ => False)).grown hgrow1 (fun k _ h => by cases h)); have HO1 := hid hown1; have hc1 := cell_of_one (HCh.out.step HF1.out).cell; have hl1 := (HCh.out.step HF1.out).lt; clear hown1 hgrow1)
  have HA0 : Hid (AI w (w1.alloc (.cells #[.slice (some ⟨w.heap.size, 0, none⟩) 0 L.length] 54)) w1.heap.size L 0) := ⟨HF1.out.alloc _, (HO1.out.lt w.heap.size rfl).2, heap_last _ _ _ rfl, own_fr HO1.out (alloc_fr _ _ (fun _ => False)) (fun _ _ h => h)⟩
  clear hc1 hl1 HF1 HO1
  generalize w1.alloc (.cells #[.slice (some ⟨w.heap.size, 0, none⟩) 0 L.length] 54) = w2 at *
  generalize w1.heap.size = N at *
  go_loopg [17] L.length (fun g s17 wx => ∃ i : Nat, s17 = .int .i64 (i : Int) ∧ i + g = L.length ∧ Hid (AI w wx N L i))
  case atStart => exact ⟨0, rfl, by omega, HA0⟩
  case round =>
    obtain ⟨i, rfl, hg, HA⟩ := hrel
    clear HA0
    cases gk with
    | zero =>
      have t1 : ¬ (i : Int) < (L.length : Int) := by omega
      have HE := hid (show i = L.length by omega)
      clear hg
      go_wp2_with fail
      go_ret
      have h1 := HA.out
      rw [HE.out] at h1
      exact ⟨N, rfl, h1.lt, h1.done hlen, h1.fr⟩
    | succ g =>
      have hi : i < L.length := by omega
      have t1 : (i : Int) < (L.length : Int) := by omega
      have HG := hid hg
      have HI := hid hi
      clear hg
      obtain ⟨ao', cap', e1, _, _, hb⟩ := HV.out.fr HA.out.fr
      simp only [Value.slice.injEq] at e1
      obtain ⟨rfl, _, rfl⟩ := e1
      obtain ⟨b, e2, hb2⟩ := hb (by rintro rfl; simp at hi)
      subst e2
      obtain ⟨c0, c1, c2⟩ := hb2 i hi
      have hbl := World.block_lt_of_cell? wr _ c0
      dsimp only at hbl
      obtain ⟨n0, n1, n2⟩ := HA.out.cells
      generalize hx : L.getD i z0 = x at c0 c1 c2
      have HX := hid hx
      have hsz := HA.out.fr.size
      clear hx hi hb hb2
      go_wp2_with (at_builtin; go_must (refine wpList_append_own_spare _ rfl (.tmp 21) (.tmp 24) 54 rfl w.heap.size 46 i0 2 Try.underlying54 hi0 hz1 w.heap.size i L.length _ rfl (own_fr (own_fr HA.out.own (alloc_fr wr _ (fun _ => False)) (fun _ _ h => h)) (alloc_fr _ _ (fun _ => False)) (fun _ _ h => h)) ⟨wr.heap.size + 1, 0, none⟩ 1 1 [.int .i64 x.e, .bool x.t] rfl rfl ?q1 ?q2 ?q3 ?_))
      case q1 =>
        have := two_new (wr.alloc (.cells #[.int .i64 x.e, .bool x.t, .int .i64 x.v] 48)) (.int .i64 x.e) (.bool x.t) 46
        simpa using this
      case q2 => intro u hu; simp at hu; rcases hu with rfl | rfl <;> rfl
      case q3 => have := HI.out; omega
      intro w3 hown3 hgrow3
      have HFr := hid (((alloc_fr wr (.cells #[.int .i64 x.e, .bool x.t, .int .i64 x.v] 48) (fun q => q = w.heap.size)).alloc (.cells #[.int .i64 x.e, .bool x.t] 46)).grown hgrow3 (fun k _ e => by simp at e; exact e.symm))
      have hc3 := cell_of_one ((HFr.out.block N n2 (by have := HA.out.lt; omega)).trans HA.out.cell)
      have hz3 := free_of_one ((HFr.out.block N n2 (by have := HA.out.lt; omega)).trans HA.out.cell)
      have hs3 := HFr.out.size
      have HO3 := hid hown3
      clear hown3 hgrow3
      go_wp2_with fail
      go_roundg g
      case measure => omega
      case rel => exact ⟨i + 1, by go_num, by have := HG.out; omega, HA.out.put HI.out HFr.out (by have := HX.out; subst this; exact HO3.out)⟩
end Go.Proofs.Ytcmniejffpoinab
