/- oper: slices.SortFunc over cells. -/
import Derived.Shelf.SlSortCmp.WholeK
import Derived.Shelf.Lay
import Derived.Ground.SlsfProg
import Derived.Test.YtbhhpkbiflolfaaVTake
namespace Go.Proofs
open Go.Shelf
shelf_lay_g SlLaysF0.n6 Slsf 6 at Try 60 as Try.sortK
end Go.Proofs
namespace Go.Proofs.Ytbhhpkbiflolfaa.V
open Go.RowKit Go.Shelf Go.Sort
open M (Cl cmpC cmC cmpC_zero cmpC_flip vC)

/-- A cell's values. -/
def encK (c : Cl) : List Value := [.int .i64 c.v, .string c.k, .int .i64 c.s]
set_option maxHeartbeats 1000000 in
set_option maxRecDepth 100000 in
theorem cmp_grow (a b : Cl) (w : World) : Calls Try.prog 33 #[.agg (encK a).toArray, .agg (encK b).toArray] w fun e w' => e = .returned (.int .i64 (cmpC a b)) ∧ ∃ q os', w' = grow (w.drewN q) os' := by
  rw [M.cmpC_or]
  simp only [encK]
  have HX := hid (fun W => M.cmp_any a.v b.v W)
  have HY := hid (fun W => M.compare_any a.k b.k W)
  have HZ := hid (fun W => M.cmp64_any a.s b.s W)
  generalize M.cmpI a.v b.v = x at *
  generalize M.cb (nums8 a.k) (nums8 b.k) = y at *
  generalize M.cmpI a.s b.s = z at *
  go_enter Try.func33, Try.ntmps33
  go_wp2_with fail
  have HG0 : Hid ((w.alloc (.cells #[.int .i64 a.v, .string a.k, .int .i64 a.s] 64)).alloc (.cells #[.int .i64 b.v, .string b.k, .int .i64 b.s] 64) = grow w (#[.cells #[.int .i64 a.v, .string a.k, .int .i64 a.s] 64] ++ #[.cells #[.int .i64 b.v, .string b.k, .int .i64 b.s] 64])) := by show _ = _; rw [alloc_eq_grow, alloc_eq_grow, grow_grow]
  have HF0 := hid (((alloc_fr w (.cells #[.int .i64 a.v, .string a.k, .int .i64 a.s] 64) (fun _ => False)).alloc (.cells #[.int .i64 b.v, .string b.k, .int .i64 b.s] 64)))
  have hA : ((w.alloc (.cells #[.int .i64 a.v, .string a.k, .int .i64 a.s] 64)).alloc (.cells #[.int .i64 b.v, .string b.k, .int .i64 b.s] 64)).heap[w.heap.size]? = some (.cells #[.int .i64 a.v, .string a.k, .int .i64 a.s] 64 (0, 0)) := by
    rw [(alloc_fr (w.alloc (.cells #[.int .i64 a.v, .string a.k, .int .i64 a.s] 64)) (.cells #[.int .i64 b.v, .string b.k, .int .i64 b.s] 64) (fun _ => False)).block _ (by simp) (fun h => h)]
    exact heap_last _ _ _ rfl
  have hB := heap_last (w.alloc (.cells #[.int .i64 a.v, .string a.k, .int .i64 a.s] 64)) (.cells #[.int .i64 b.v, .string b.k, .int .i64 b.s] 64) (w.heap.size + 1) (by simp)
  obtain ⟨a0, a1, a2⟩ := cells3 hA
  obtain ⟨b0, b1, b2⟩ := cells3 hB
  have hlA := lt_of_block hA
  have hlB := lt_of_block hB
  clear hA hB
  generalize ((w.alloc (.cells #[.int .i64 a.v, .string a.k, .int .i64 a.s] 64)).alloc (.cells #[.int .i64 b.v, .string b.k, .int .i64 b.s] 64)) = W0 at *
  generalize w.heap.size = N at *
  have HC := hid (fun (W' : World) (hf : Fr W0 W' (fun _ => False)) => (show W'.cell? ⟨N, 0, none⟩ = some (.int .i64 a.v) ∧ W'.cell? ⟨N, 1, none⟩ = some (.string a.k) ∧ W'.cell? ⟨N, 2, none⟩ = some (.int .i64 a.s) ∧ W'.cell? ⟨N + 1, 0, none⟩ = some (.int .i64 b.v) ∧ W'.cell? ⟨N + 1, 1, none⟩ = some (.string b.k) ∧ W'.cell? ⟨N + 1, 2, none⟩ = some (.int .i64 b.s) from by
    have hr := (fr_rules hf).1
    exact ⟨by rw [hr _ _ hlA]; exact a0, by rw [hr _ _ hlA]; exact a1, by rw [hr _ _ hlA]; exact a2, by rw [hr _ _ hlB]; exact b0, by rw [hr _ _ hlB]; exact b1, by rw [hr _ _ hlB]; exact b2⟩))
  have HF := hid (Fr.refl W0 (fun _ => False))
  clear a0 a1 a2 b0 b1 b2 hlA hlB
  go_region_held3 (fun W' => Hid (Fr W0 W' (fun _ => False)) ∧ W'.cell? ⟨N, 0, none⟩ = some (.int .i64 a.v) ∧ W'.cell? ⟨N, 1, none⟩ = some (.string a.k) ∧ W'.cell? ⟨N, 2, none⟩ = some (.int .i64 a.s) ∧ W'.cell? ⟨N + 1, 0, none⟩ = some (.int .i64 b.v) ∧ W'.cell? ⟨N + 1, 1, none⟩ = some (.string b.k) ∧ W'.cell? ⟨N + 1, 2, none⟩ = some (.int .i64 b.s))
    ((refine (fun h => ⟨h, HC.out _ h⟩ : Fr W0 _ (fun _ => False) → _) ?_; repeat (first | exact HF.out | exact Fr.refl _ _ | apply Fr.drew | apply Fr.alloc)))
    (first
    | (go_at_call 63; refine (HX.out _).mono ?_; rintro e w1 ⟨rfl, rfl⟩)
    | (go_at_call 64; refine (HY.out _).mono ?_; rintro e w1 ⟨rfl, rfl⟩)
    | (go_at_call 65; refine (HZ.out _).mono ?_; rintro e w1 ⟨rfl, rfl⟩)
    | (go_at_call 62; refine (M.or3_any _ _ _ _).mono ?_; rintro e w1 ⟨rfl, rfl⟩)
    | fail)
  go_wp2_with fail
  go_ret
  refine ⟨rfl, 1, (#[.cells #[.int .i64 a.v, .string a.k, .int .i64 a.s] 64] ++ #[.cells #[.int .i64 b.v, .string b.k, .int .i64 b.s] 64]) ++ #[.cells #[.int .i64 x, .int .i64 y, .int .i64 z] 3], ?_⟩
  show (W0.alloc _).drew = _
  rw [HG0.out, alloc_eq_grow, grow_grow]
  rfl


theorem cmpK_lays (blk off size : Nat) (w : World) : CmpLays Try.prog 33 #[] encK 3 cmpC blk off size w :=
  fun _ _ _ _ x y => cmp_grow x y _
theorem swo_cmpC : SWO (ltOf cmpC) where
  irrefl x := by simp [ltOf, cmpC_zero.2 rfl]
  trans x y z h1 h2 := by
    unfold ltOf at *
    exact decide_eq_true (cmp_trans (of_decide_eq_true h1) (of_decide_eq_true h2))
  ntrans x y z h1 h2 := by
    unfold ltOf at *
    have h1 := of_decide_eq_false h1
    have h2 := of_decide_eq_false h2
    apply decide_eq_false
    intro h3
    have f1 : cmpC y x ≤ 0 := by have := cmpC_flip y x; omega
    exact h2 (cmC.strict' f1 h3)
theorem flatK_get (xs : List Cl) (j : Nat) (h : j < xs.length * 3) : (kv xs)[j]? = some ((flatK encK 3 xs.toArray)[j]!) := by
  rw [get_flatK _ _ _ _ (by simpa using h)]
  have hi : j / 3 < xs.length := by omega
  have e : xs.toArray[j / 3]! = xs[j / 3]?.getD default := by simp [hi]
  obtain ⟨h0, h1, h2⟩ := kv_get hi []
  rw [List.append_nil] at h0 h1 h2
  rw [e]
  have hm : j % 3 = 0 ∨ j % 3 = 1 ∨ j % 3 = 2 := by omega
  rcases hm with hm | hm | hm
  · rw [hm, show j = j / 3 * 3 by omega, h0, show j / 3 * 3 / 3 = j / 3 by omega]; rfl
  · rw [hm]; conv => lhs; rw [show j = j / 3 * 3 + 1 by omega]
    rw [h1]; rfl
  · rw [hm]; conv => lhs; rw [show j = j / 3 * 3 + 2 by omega]
    rw [h2]; rfl
theorem rowK_holds {w : World} {S : Nat} {xs : List Cl} {rest : List Value} (h : RowK w S xs rest) : HoldsK encK 3 w S 0 xs.toArray := by
  intro j hj
  rw [size_flatK] at hj
  simp only [List.size_toArray] at hj
  refine ⟨?_, by simpa using h.free (0 + j)⟩
  rw [cell_of_row w S _ _ _ (0, 0) h, Nat.zero_add]
  have := flatK_get xs j hj
  simp [List.getElem?_append_left (show j < (kv xs).length by rw [kv_length]; exact hj), this]
theorem putK {xs ys : List Cl} (hl : ys.length = xs.length) (rest : List Value) : putCells id 0 (flatK encK 3 ys.toArray) (kv xs ++ rest).toArray = (kv ys ++ rest).toArray := by
  apply Array.ext_getElem?
  intro k
  simp only [putCells, Array.getElem?_mapIdx, size_flatK, List.size_toArray, id_eq, Nat.zero_add, Nat.zero_le, true_and, Nat.sub_zero, List.getElem?_toArray]
  by_cases hk : k < ys.length * 3
  · have e1 : (kv xs ++ rest)[k]? = (kv xs)[k]? := List.getElem?_append_left (by rw [kv_length]; omega)
    have e2 : (kv ys ++ rest)[k]? = (kv ys)[k]? := List.getElem?_append_left (by rw [kv_length]; omega)
    rw [e1, e2, flatK_get xs k (by omega), flatK_get ys k hk]
    simp [hk]
  · have e1 : (kv xs ++ rest)[k]? = rest[k - xs.length * 3]? := by rw [List.getElem?_append_right (by rw [kv_length]; omega), kv_length]
    have e2 : (kv ys ++ rest)[k]? = rest[k - ys.length * 3]? := by rw [List.getElem?_append_right (by rw [kv_length]; omega), kv_length]
    rw [e1, e2, hl]
    simp only [hl] at hk
    cases rest[k - xs.length * 3]? <;> simp [hk]
theorem sortK_any {S cap : Nat} {xs : List Cl} {rest : List Value} (w : World) (h : RowK w S xs rest) (hl : xs.length ≤ 2199023255552) :
    Calls Try.prog 60 #[.slice (some ⟨S, 0, none⟩) xs.length cap, .func (.func 33) #[] #[]] w fun e w' => e = .returned (.tuple #[]) ∧ ∃ ys : List Cl, ys.length = xs.length ∧ ys.Perm xs ∧ ys.Pairwise (fun a b => ¬ cmpC b a < 0) ∧ RowK w' S ys rest ∧ Fr w w' (fun b => b = S) := by
  have hH := rowK_holds h
  have hlt := h.lt
  have eg : ∀ args w, (callFunc 33 args).run Try.prog w = .ok (.enter 33 args) w := enters_of Try.func33 (by kernel_rfl) rfl
  have hcon := AnyQ.slices_SortFunc Try.sortK 3 Try.isAgg64 Try.sizeOf64 encK (fun _ => rfl) (fun x v hv => by simp [encK] at hv; rcases hv with rfl | rfl | rfl <;> rfl) cmpC swo_cmpC 33 #[] S 0 cap xs.toArray w eg (cmpK_lays S 0 xs.toArray.size w) hH hlt (by simp; omega)
  change Calls Try.prog 60 _ _ _ at hcon
  refine hcon.mono ?_
  rintro e w' ⟨rfl, d', n, os, hp, hs, rfl⟩
  have hsz : d'.size = xs.toArray.size := hp.1
  have hyl : d'.toList.length = xs.length := by simpa using hsz
  have hsz2 : (putRowK encK 3 (Sort.ahead w n) S 0 d').heap.size = w.heap.size := by simp [putRowK, Sort.ahead]
  refine ⟨rfl, d'.toList, hyl, ?_, ?_, ?_, ?_⟩
  · have := hp.2.2
    rw [← hsz, Array.extract_size] at this
    rw [hsz, Array.extract_size] at this
    simpa using this
  · rw [List.pairwise_iff_getElem]
    intro i j hi hj hij
    have := hs i j (Nat.zero_le _) hij (by rw [← hsz]; simpa using hj)
    rw [getElem!_pos d' j (by simpa using hj), getElem!_pos d' i (by simpa using hi)] at this
    have h3 := of_decide_eq_false this
    simpa using h3
  · unfold RowK
    rw [show (sortWorldK encK 3 w S 0 n d' os).heap[S]? = (putRowK encK 3 (Sort.ahead w n) S 0 d').heap[S]? from heap_grow_old _ _ (by rw [hsz2]; exact hlt)]
    unfold putRowK putRow mapBlock
    simp only [Array.getElem?_modify, Sort.ahead]
    have h' : w.heap[S]? = some (.cells (kv xs ++ rest).toArray 64 (0, 0)) := h
    rw [h']
    simp only [if_true, Option.map_some, onCells]
    have e : d' = d'.toList.toArray := by simp
    conv => lhs; rw [e]
    rw [putK hyl rest]
  · refine ⟨rfl, rfl, rfl, by simp [sortWorldK, putRowK, Sort.ahead], fun k hk hne => ?_⟩
    rw [show (sortWorldK encK 3 w S 0 n d' os).heap[k]? = (putRowK encK 3 (Sort.ahead w n) S 0 d').heap[k]? from heap_grow_old _ _ (by rw [hsz2]; exact hk)]
    unfold putRowK putRow mapBlock
    simp only [Array.getElem?_modify, Sort.ahead]
    rw [if_neg (fun e => hne e.symm)]
end Go.Proofs.Ytbhhpkbiflolfaa.V
