/- oper: Live: the keys of a map of cells, one behind the other, sorted: walks. -/
import Derived.RangeFuncNested
import Derived.RangeFuncBound
import Derived.RangeFuncCalls
import Derived.RangeFuncLeaves
import Derived.RangeFuncBox
import Derived.Shelf.Abstract
import Derived.Shelf.RegionOpen
import Derived.OwnWalkIn
import Derived.TacticsInMore
import Derived.LoopNIn
import Derived.LoopIn
import Derived.Sort.MapsRangeIn
import Derived.Maps.AppendAt
import Derived.Test.YtglkjhpkeelajaaVTake
namespace Go.Proofs.Ytglkjhpkeelajaa.V
open Go.RowKit Go.Maps Go.Shelf
open M (Cl cmpC cmC cmpC_zero cmpC_flip vC)

attribute [local go_sem] Oper.semAt_some

theorem kl_dec {c d : Cl} (hc : FitC c) (hd : FitC d) : (kl d).sameKey (kl c) = decide (d = c) := by
  by_cases h : d = c
  · subst h; rw [kl_same]; simp
  · rw [decide_eq_false h]
    rcases hs : (kl d).sameKey (kl c) with _ | _
    · rfl
    · exact absurd (kl_inj hd hc (WideAt.sameKey_eq hs)) h
/-- The cells that have come so far of a map's. -/
structure Gt (L : List Cl) (left : Lit → Bool) (G : List Cl) : Prop where
  inL : ∀ c, FitC c → left (kl c) = true → c ∈ L
  nd : G.Nodup
  mem : ∀ c, c ∈ G ↔ c ∈ L ∧ left (kl c) = false
theorem Gt.start {L : List Cl} {D : DataW Unit} (h1 : ∀ c, FitC c → Maps.has D (kl c) = decide (c ∈ L)) (hf : ∀ c ∈ L, FitC c) : Gt L (Maps.has D) [] := by
  refine ⟨fun c hc h => ?_, List.nodup_nil, fun c => ?_⟩
  · rw [h1 c hc] at h; exact of_decide_eq_true h
  · constructor
    · intro h; cases h
    · rintro ⟨hm, h⟩
      rw [h1 c (hf c hm), decide_eq_true hm] at h
      cases h
theorem Gt.step {L : List Cl} {left : Lit → Bool} {G : List Cl} (h : Gt L left G) (hL : ∀ c ∈ L, FitC c) {c : Cl} (hc : FitC c) (hl : left (kl c) = true) : Gt L (fun z => left z && !z.sameKey (kl c)) (G ++ [c]) := by
  have hcL := h.inL c hc hl
  refine ⟨fun d hd hl => ?_, ?_, fun d => ?_⟩
  · simp only [Bool.and_eq_true] at hl
    exact h.inL d hd hl.1
  · refine List.nodup_append.2 ⟨h.nd, by simp, fun a ha b hb => ?_⟩
    simp only [List.mem_singleton] at hb
    subst hb
    rintro rfl
    have := ((h.mem a).1 ha).2
    rw [hl] at this
    cases this
  · rw [List.mem_append, List.mem_singleton, h.mem d]
    constructor
    · rintro (⟨h1, h3⟩ | rfl)
      · exact ⟨h1, by simp [h3]⟩
      · exact ⟨hcL, by simp [kl_same]⟩
    · rintro ⟨h1, h3⟩
      by_cases e : d = c
      · exact Or.inr e
      · refine Or.inl ⟨h1, ?_⟩
        rw [kl_dec hc (hL d h1)] at h3
        simpa [e] using h3
theorem Gt.done {L : List Cl} {left : Lit → Bool} {G : List Cl} (h : Gt L left G) (hn : L.Nodup) (hl : ∀ k, left k = false) : G.Perm L :=
  (List.perm_ext_iff_of_nodup h.nd hn).2 (fun c => by rw [h.mem c]; simp [hl])

/-- Cells of which something is known, as a type: what a round is handed. -/
abbrev CF := { c : Cl // FitC c }
def encC1 (c : CF) : Array Value := #[.agg #[.int .i64 c.1.v, .string c.1.k, .int .i64 c.1.s]]
def cls (l : List CF) : List Cl := l.map (·.1)
theorem cls_length (l : List CF) : (cls l).length = l.length := List.length_map ..
theorem cls_snoc (l : List CF) (x : CF) : cls (l ++ [x]) = cls l ++ [x.1] := by unfold cls; rw [List.map_append]; rfl

set_option maxRecDepth 100000 in
set_option maxHeartbeats 2000000 in
theorem keys1_in (F : Fence) (n : Nat) (h7 : F.fn 80) (hro : F.round = none) (hn : 1 ≤ n) (l Bm b : Nat) (L : List Cl) (J Jx : List CF → World → Prop)
    (hY : ∀ pre x W, J pre W → pre.length < L.length → YieldAt F (n - 1) Try.prog l (encC1 x) W fun e W' =>
      (e = .returned (.bool true) ∧ J (pre ++ [x]) W' ∧ KeepsWalks W W') ∨ (e = .returned (.bool false) ∧ Jx (pre ++ [x]) W'))
    (W : World) (hJa : AbidesFrom W.heap.size J) (hm : W.cell? ⟨Bm, 0, none⟩ = some (.map (some b))) (hmc : Mc W b L) (hnd : L.Nodup) (h0 : J [] W) :
    CallsIn F n Try.prog 80 #[.func (.yield l) #[] #[], .pointer (some ⟨Bm, 0, none⟩)] W fun e W' => (∃ v, e = .returned v) ∧
      ((∃ ys : List CF, (cls ys).Perm L ∧ J ys W') ∨ (∃ pre : List CF, True ∧ Jx pre W')) := by
  obtain ⟨D, hown, hhas, hsz, hfit⟩ := hmc
  have HFI := hid hfit
  have HST := hid (Gt.start hhas hfit)
  have HND := hid hnd
  clear hhas hfit hnd
  refine callsIn_of_wp Try.func80 rfl h7 ?_ hro
  simp only [Try.ntmps80, List.size_toArray, List.length_cons, List.length_nil, Nat.reduceAdd, Nat.reduceSub, Array.replicate_succ, Array.replicate_zero, List.push_toArray, List.append_toArray, List.nil_append, List.cons_append]
  gi_wp2_with (first
    | (gi_at_range; refine wpListIn_range_own _ rfl _ 83 rfl 64 99 law Try.underlying83 unitElem b L.length D rfl hown ?_; intro w0 hrg0 hg0 hs0)
    | gi_in)
  go_frame
  gi_loopw [3] (fun _ wr => ∃ (left : Lit → Bool) (cnt : Nat) (ss : List CF), wr.ranges Try.prog 64 unitElem b W.heap.size L.length D left cnt ∧ ss.length + cnt ≤ L.length ∧ Gt L left (cls ss) ∧ J ss wr)
    (fun _ wr => wr.rangeLeft b W.heap.size)
  case atStart =>
    exact ⟨_, _, [], hrg0, by simp [hsz], HST.out, hJa [] W w0 none h0 hg0 (fun r e => by cases e)⟩
  case round =>
    obtain ⟨left, cnt, ss, hrg, hcs, hC, hJs⟩ := hrel
    gi_wp2_with (first
      | (gi_at_next; refine wpListIn_next_ranges _ rfl _ rfl 64 law unitElem (fun c : Cl => .agg #[.int .i64 c.v, .string c.k, .int .i64 c.s]) (fun _ : Unit => .agg #[]) (fun key kl hk => by obtain ⟨c, hc, _⟩ := keyC_inv hk; exact ⟨c, hc⟩) (fun v y hv => ⟨(), (unitElem_inv hv).1⟩) b W.heap.size L.length _ _ _ rfl hrg ?_ ?_)
      | gi_in)
    · -- nothing is left
      intro hc0 hl0
      gi_wp2
      go_end0
      exact ⟨⟨_, rfl⟩, .inl ⟨ss, hC.done HND.out hl0, hJs⟩⟩
    · -- a cell has come
      intro c kl0 yd yp w2 cnt2 hkey hlk hv hat hrg2 hlt hg2 hs2 hen
      obtain ⟨c', ec, hfc, rfl⟩ := keyC_inv hkey
      obtain rfl : c = c' := vC_inj ec
      have hJ2 : J ss w2 := hJa ss wr w2 (some W.heap.size) hJs hg2 (fun r e => by cases e; exact ⟨Nat.le_refl _, hrg.iter_walk⟩)
      have hJ3 : J ss (w2.alloc (.cells #[.int .i64 c.v, .string c.k, .int .i64 c.s] 64)) := hJa ss _ _ none hJ2 (World.grownBy_alloc w2 _ none) (fun r e => by cases e)
      obtain ⟨fn, tmps, assign, body, hy, hR⟩ := hY ss ⟨c, hfc⟩ _ hJ3 (by omega)
      have HRG : Hid ((w2.alloc (.cells #[.int .i64 c.v, .string c.k, .int .i64 c.s] 64)).ranges Try.prog 64 unitElem b W.heap.size L.length D (fun z => left z && !z.sameKey (kl c)) cnt2) := hrg2.of_walks (KeepsWalks.alloc _ _)
      have HST2 := hid (hC.step HFI.out hfc hlk)
      have HLT := hid hlt
      have HCS := hid (show (ss ++ [(⟨c, hfc⟩ : CF)]).length + cnt2 ≤ L.length by simp; omega)
      have HLE := hid hrg.left_eq
      unfold encC1 at hy
      dsimp only at hy
      clear hs2 hrg2 hkey hlk hv hat hlt hC hcs hg2 hrg ec
      gi_wp2
      refine hR.mono ?_
      rintro e W3 (⟨rfl, hJ3, hk3⟩ | ⟨rfl, hJx3⟩)
      · gi_wp2
        have hrg3 := HRG.out.of_walks hk3
        go_roundw
        case rel => exact ⟨_, cnt2, ss ++ [⟨c, hfc⟩], hrg3, HCS.out, by rw [cls_snoc]; exact HST2.out, hJ3⟩
        case measure => rw [hrg3.left_eq, HLE.out]; exact HLT.out
      · gi_wp2
        refine bodyPost_ret (results_none rfl _ _ _) rfl ?_
        exact ⟨⟨_, rfl⟩, .inr ⟨_, trivial, hJx3⟩⟩
/-- What maps.Keys hands out: all of the cells, each once. -/
theorem keys_stops (F : Fence) (n : Nat) (h7 : F.fn 80) (hro : F.round = none) (hn : 1 ≤ n) (Bm b : Nat) (L : List Cl) (w : World) (hm : w.heap[Bm]? = some (.cells #[.map (some b)] 83 (0, 0))) (hmc : Mc w b L) (hnd : L.Nodup) :
    SeqStopsK F n Try.prog 80 #[.pointer (some ⟨Bm, 0, none⟩)] encC1 KeepsWalks (fun ys => (cls ys).Perm L) (fun _ => True) L.length w := fun l J Jx W hW hJa _ hY h0 => by
  have hf : Fr w W (fun _ => False) := Fr.ofBelow hW
  exact keys1_in F n h7 hro hn l Bm b L J Jx hY W hJa (cell_of_one ((hf.block _ (lt_of_block hm) (fun h => h)).trans hm)) (hmc.fr hf (fun h => h)) hnd h0
theorem keys_any (b : Nat) (w : World) : Calls Try.prog 48 #[.map (some b)] w fun e w' => e = .returned (.func (.func 80) #[] #[.pointer (some ⟨w.heap.size, 0, none⟩)]) ∧ w' = w.alloc (.cells #[.map (some b)] 83) := by
  go_enter Try.func48, Try.ntmps48
  go_wp2
  go_ret
  exact ⟨rfl, rfl⟩
end Go.Proofs.Ytglkjhpkeelajaa.V
