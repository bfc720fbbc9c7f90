/- table: the order of keys; slices.SortFunc over entries. -/
import Derived.Shelf.SlSortCmp.WholeK
import Derived.Shelf.Lay
import Derived.Ground.SlsfProg
import Derived.Lib.Bytealg
import Derived.Test.YtgbkihkefdoddaaGreatDoorJoin5
namespace Go.Proofs
open Go.Shelf
shelf_lay_g SlLaysF0.n6 Slsf 6 at Tryz 139 as Tryz.sortER
end Go.Proofs
namespace Go.Proofs.YtgbkihkefdoddaaGreatDoor.R
open Go.RowKit Go.Shelf Go.Sort

set_option maxRecDepth 100000 in
theorem cmpString_any (a b : ByteArray) (w : World) : Calls Tryz.prog 119 #[.string a, .string b] w fun e w' => e = .returned (.int .i64 (Lib.compareBytes a.data.toList b.data.toList)) ∧ w' = w := by
  go_enter Tryz.func119, Tryz.ntmps119
  go_wp2_with fail
  rw [run_callFunc_extern Tryz.func153 (by kernel_rfl) (by kernel_rfl) (by kernel_rfl) (e := Extern.BytealgCompare.compare) (by kernel_rfl), Lib.run_compareString]
  simp only [Result.andThen]
  rw [Oper.upon_value]
  go_wp2
  go_ret
  exact ⟨rfl, rfl⟩
set_option maxRecDepth 100000 in
theorem compare_any (a b : ByteArray) (w : World) : Calls Tryz.prog 86 #[.string a, .string b] w fun e w' => e = .returned (.int .i64 (Lib.compareBytes a.data.toList b.data.toList)) ∧ w' = w := by
  go_enter Tryz.func86, Tryz.ntmps86
  go_wp2_with fail
  refine (cmpString_any a b w).mono ?_
  rintro e w1 ⟨rfl, hw1⟩
  have hw1 := hw1.symm
  subst hw1
  go_wp2_with fail
  go_ret
  exact ⟨rfl, rfl⟩

instance : Inhabited En := ⟨ez⟩
/-- The order of entries. -/
def cf (x y : En) : Int := Lib.compareBytes x.1.data.toList y.1.data.toList
theorem cb_self : ∀ a : List UInt8, Lib.compareBytes a a = 0
  | [] => rfl
  | x :: a => by
    unfold Lib.compareBytes
    rw [if_neg (UInt8.lt_irrefl x), if_neg (UInt8.lt_irrefl x)]
    exact cb_self a
theorem u8_cases (x y : UInt8) : x < y ∨ x = y ∨ y < x := by
  rcases Nat.lt_trichotomy x.toNat y.toNat with h | h | h
  · exact Or.inl h
  · exact Or.inr (Or.inl (UInt8.toNat_inj.1 h))
  · exact Or.inr (Or.inr h)
theorem cb_vals : ∀ a b : List UInt8, Lib.compareBytes a b = -1 ∨ Lib.compareBytes a b = 0 ∨ Lib.compareBytes a b = 1
  | [], [] => Or.inr (Or.inl rfl)
  | [], _ :: _ => Or.inl rfl
  | _ :: _, [] => Or.inr (Or.inr rfl)
  | x :: a, y :: b => by
    unfold Lib.compareBytes
    split
    · exact Or.inl rfl
    · split
      · exact Or.inr (Or.inr rfl)
      · exact cb_vals a b
theorem cb_flip : ∀ a b : List UInt8, Lib.compareBytes b a = - Lib.compareBytes a b
  | [], [] => rfl
  | [], _ :: _ => rfl
  | _ :: _, [] => rfl
  | x :: a, y :: b => by
    unfold Lib.compareBytes
    rcases u8_cases x y with h | h | h
    · have h2 : ¬ y < x := fun h3 => by have h4 : x.toNat < y.toNat := h; have h5 : y.toNat < x.toNat := h3; omega
      rw [if_neg h2, if_pos h, if_pos h]; rfl
    · subst h
      rw [if_neg (UInt8.lt_irrefl x), if_neg (UInt8.lt_irrefl x), if_neg (UInt8.lt_irrefl x), if_neg (UInt8.lt_irrefl x)]
      exact cb_flip a b
    · have h2 : ¬ x < y := fun h3 => by have h4 : y.toNat < x.toNat := h; have h5 : x.toNat < y.toNat := h3; omega
      rw [if_pos h, if_neg h2, if_pos h]
theorem cb_zero : ∀ a b : List UInt8, Lib.compareBytes a b = 0 → a = b
  | [], [], _ => rfl
  | [], _ :: _, h => by cases h
  | _ :: _, [], h => by cases h
  | x :: a, y :: b, h => by
    unfold Lib.compareBytes at h
    rcases u8_cases x y with h1 | h1 | h1
    · rw [if_pos h1] at h; cases h
    · subst h1
      rw [if_neg (UInt8.lt_irrefl x), if_neg (UInt8.lt_irrefl x)] at h
      rw [cb_zero a b h]
    · have h2 : ¬ x < y := fun h3 => by have h4 : y.toNat < x.toNat := h1; have h5 : x.toNat < y.toNat := h3; omega
      rw [if_neg h2, if_pos h1] at h; cases h
theorem cb_trans : ∀ a b c : List UInt8, Lib.compareBytes a b < 0 → Lib.compareBytes b c < 0 → Lib.compareBytes a c < 0
  | [], [], _, h, _ => by cases h
  | [], _ :: _, [], _, h => by cases h
  | [], _ :: _, _ :: _, _, _ => by show (-1 : Int) < 0; decide
  | _ :: _, [], _, h, _ => by cases h
  | _ :: _, _ :: _, [], _, h => by cases h
  | x :: a, y :: b, z :: c, h1, h2 => by
    unfold Lib.compareBytes at h1 h2 ⊢
    rcases u8_cases x y with hxy | hxy | hxy
    · rcases u8_cases y z with hyz | hyz | hyz
      · have : x < z := by have h4 : x.toNat < y.toNat := hxy; have h5 : y.toNat < z.toNat := hyz; show x.toNat < z.toNat; omega
        rw [if_pos this]; decide
      · subst hyz; rw [if_pos hxy]; decide
      · have h3 : ¬ y < z := fun h3 => by have h4 : z.toNat < y.toNat := hyz; have h5 : y.toNat < z.toNat := h3; omega
        rw [if_neg h3, if_pos hyz] at h2; cases h2
    · subst hxy
      rw [if_neg (UInt8.lt_irrefl x), if_neg (UInt8.lt_irrefl x)] at h1
      rcases u8_cases x z with hyz | hyz | hyz
      · rw [if_pos hyz]; decide
      · subst hyz
        rw [if_neg (UInt8.lt_irrefl x), if_neg (UInt8.lt_irrefl x)] at h2 ⊢
        exact cb_trans a b c h1 h2
      · have h3 : ¬ x < z := fun h3 => by have h4 : z.toNat < x.toNat := hyz; have h5 : x.toNat < z.toNat := h3; omega
        rw [if_neg h3, if_pos hyz] at h2; cases h2
    · have h3 : ¬ x < y := fun h3 => by have h4 : y.toNat < x.toNat := hxy; have h5 : x.toNat < y.toNat := h3; omega
      rw [if_neg h3, if_pos hxy] at h1; cases h1
theorem swo_cf : SWO (ltOf cf) where
  irrefl x := by simp [ltOf, cf, cb_self]
  trans x y z h1 h2 := by
    unfold ltOf cf at *
    exact decide_eq_true (cb_trans _ _ _ (of_decide_eq_true h1) (of_decide_eq_true h2))
  ntrans x y z h1 h2 := by
    unfold ltOf cf at *
    have h1 := of_decide_eq_false h1
    have h2 := of_decide_eq_false h2
    apply decide_eq_false
    intro h3
    have f1 := cb_flip y.1.data.toList x.1.data.toList
    have f2 := cb_flip z.1.data.toList y.1.data.toList
    rcases cb_vals y.1.data.toList x.1.data.toList with v1 | v1 | v1
    · have h4 := cb_trans y.1.data.toList x.1.data.toList z.1.data.toList (by omega) h3
      exact h2 h4
    · have := cb_zero _ _ v1
      rw [← this] at h3
      exact h2 h3
    · omega

/-- The closure that compares entries. -/
theorem clo_any (x y : En) (W : World) : Calls Tryz.prog 140 #[.agg (encE x).toArray, .agg (encE y).toArray] W fun e w' => e = .returned (.int .i64 (cf x y)) ∧ ∃ q os', w' = grow (W.drewN q) os' := by
  unfold cf encE
  obtain ⟨k1, x⟩ := x
  obtain ⟨k2, y⟩ := y
  have HC := hid (fun W' => compare_any k1 k2 W')
  dsimp only
  generalize Lib.compareBytes k1.data.toList k2.data.toList = r at HC ⊢
  go_enter Tryz.func140, Tryz.ntmps140
  go_wp2_with fail
  refine (HC.out _).mono ?_
  rintro e w1 ⟨rfl, hw1⟩
  subst hw1
  go_wp2_with fail
  go_ret
  exact ⟨rfl, 0, _, by rw [alloc_eq_grow, alloc_eq_grow, grow_grow]; rfl⟩
theorem cmp_lays (blk off size : Nat) (w : World) : CmpLays Tryz.prog 140 #[] encE 5 cf blk off size w :=
  fun _ _ _ _ x y => clo_any x y _

/-- An entry's j-th cell. -/
def cellE (e : En) (j : Nat) : Value := if j = 0 then .string e.1 else if j = 1 then .int .i64 e.2.v else if j = 2 then .string e.2.k else if j = 3 then .int .i64 e.2.s else .pointer e.2.p
theorem ec_get : ∀ (L : List En) (i j : Nat), i < L.length → j < 5 → (ec L)[i * 5 + j]? = some (cellE (L.getD i ez) j)
  | [], i, j, h, _ => by simp at h
  | x :: L, 0, j, _, hj => by
    rw [Nat.zero_mul, Nat.zero_add]
    match j, hj with
    | 0, _ => rfl
    | 1, _ => rfl
    | 2, _ => rfl
    | 3, _ => rfl
    | 4, _ => rfl
  | x :: L, i + 1, j, h, hj => by
    have := ec_get L i j (by simpa using h) hj
    rw [show (i + 1) * 5 + j = (i * 5 + j) + 5 by omega]
    simpa [ec] using this
theorem getE {xs : List En} {i : Nat} (h : i < xs.length) : xs.toArray[i]! = xs.getD i ez := by
  simp [h, List.getD]
/-- The row's cells, flat. -/
theorem flat_get (xs : List En) (j : Nat) (h : j < xs.length * 5) : (flatK encE 5 xs.toArray)[j]! = cellE (xs.getD (j / 5) ez) (j % 5) := by
  rw [get_flatK _ _ _ _ (by simpa using h), getE (by omega)]
  have hm : j % 5 = 0 ∨ j % 5 = 1 ∨ j % 5 = 2 ∨ j % 5 = 3 ∨ j % 5 = 4 := by omega
  rcases hm with hm | hm | hm | hm | hm <;> rw [hm] <;> rfl
theorem own_holds {w : World} {base S cap : Nat} {xs : List En} (ho : w.ownsRow base 193 5 (.slice (some ⟨S, 0, none⟩) xs.length cap) xs.length (ec xs)) : HoldsK encE 5 w S 0 xs.toArray ∧ ∃ cs, w.heap[S]? = some (.cells cs 193 (0, 0)) := by
  have hb : ∃ cs, w.heap[S]? = some (.cells cs 193 (0, 0)) := by
    rcases ho.2 with ⟨e, _⟩ | ⟨g, cap', cur, e, _, hg, _⟩
    · simp at e
    · simp only [Value.slice.injEq, Option.some.injEq, Addr.mk.injEq, and_true, true_and] at e
      obtain ⟨rfl, _⟩ := e
      exact ⟨cur, hg⟩
  refine ⟨fun j hj => ?_, hb⟩
  rw [size_flatK] at hj
  simp only [List.size_toArray] at hj
  obtain ⟨cs, hcs⟩ := hb
  refine ⟨?_, by simp [World.frozen?, hcs]⟩
  rw [flat_get xs j hj]
  have h1 := ec_get xs (j / 5) (j % 5) (by omega) (by omega)
  have c := ho.cells (g := S) rfl _ _ h1
  rw [Addr.add_lit, Nat.zero_add, show j / 5 * 5 + j % 5 = j by omega] at c
  rw [Nat.zero_add]
  exact c
/-- Behind the sort. -/
theorem sorted_world {w : World} {S m : Nat} {xs : List En} {d' : Array En} {os : Array Obj} (hH : HoldsK encE 5 w S 0 xs.toArray) (hb : ∃ cs, w.heap[S]? = some (.cells cs 193 (0, 0))) (hp : PermIn 0 xs.toArray.size xs.toArray d') (hs : SortedIn (ltOf cf) 0 xs.toArray.size d') :
    ∃ ys : List En, ys.length = xs.length ∧ ys.Perm xs ∧ ys.Pairwise (fun a b => ¬ cf b a < 0) ∧ (∀ i, i < ys.length → (sortWorldK encE 5 w S 0 m d' os).cell? ⟨S, i * 5, none⟩ = some (.string (ys.getD i ez).1) ∧ (sortWorldK encE 5 w S 0 m d' os).cell? ⟨S, i * 5 + 1, none⟩ = some (.int .i64 (ys.getD i ez).2.v) ∧ (sortWorldK encE 5 w S 0 m d' os).cell? ⟨S, i * 5 + 2, none⟩ = some (.string (ys.getD i ez).2.k) ∧ (sortWorldK encE 5 w S 0 m d' os).cell? ⟨S, i * 5 + 3, none⟩ = some (.int .i64 (ys.getD i ez).2.s) ∧ (sortWorldK encE 5 w S 0 m d' os).cell? ⟨S, i * 5 + 4, none⟩ = some (.pointer (ys.getD i ez).2.p)) ∧ (∃ cs, (sortWorldK encE 5 w S 0 m d' os).heap[S]? = some (.cells cs 193 (0, 0))) ∧ Fr w (sortWorldK encE 5 w S 0 m d' os) (fun b => b = S) := by
  obtain ⟨cs, hcs⟩ := hb
  have hlt := lt_of_block hcs
  have hsz : d'.size = xs.toArray.size := hp.1
  have hy : d' = d'.toList.toArray := by simp
  have hyl : d'.toList.length = xs.length := by simpa using hsz
  have hH2 : HoldsK encE 5 (putRowK encE 5 (Sort.ahead w m) S 0 d') S 0 d' := holdsK_putRowK encE 5 (Sort.ahead w m) S 0 xs.toArray d' hH hsz
  have hsz2 : (putRowK encE 5 (Sort.ahead w m) S 0 d').heap.size = w.heap.size := by simp [putRowK, Sort.ahead]
  have hcell : ∀ j, (sortWorldK encE 5 w S 0 m d' os).cell? ⟨S, j, none⟩ = (putRowK encE 5 (Sort.ahead w m) S 0 d').cell? ⟨S, j, none⟩ := fun j => cell?_grow _ _ _ (by show S < _; rw [hsz2]; exact hlt)
  refine ⟨d'.toList, hyl, ?_, ?_, ?_, ?_, ?_⟩
  · have := hp.2.2
    rw [← hsz, Array.extract_size] at this
    rw [hsz, Array.extract_size] at this
    simpa using this
  · rw [List.pairwise_iff_getElem]
    intro i j hi hj hij
    have := hs i j (Nat.zero_le _) hij (by rw [← hsz]; simpa using hj)
    rw [getElem!_pos d' j (by simpa using hj), getElem!_pos d' i (by simpa using hi)] at this
    have h3 := of_decide_eq_false this
    simpa using h3
  · intro i hi
    have hi2 : i < d'.size := by simpa using hi
    have one : ∀ j, j < 5 → (sortWorldK encE 5 w S 0 m d' os).cell? ⟨S, i * 5 + j, none⟩ = some (cellE (d'.toList.getD i ez) j) := fun j hj => by
      rw [hcell]
      have a := hH2 (i * 5 + j) (by rw [size_flatK]; omega)
      rw [Nat.zero_add] at a
      rw [a.1]
      conv => lhs; rw [hy]
      rw [flat_get _ _ (by simp; omega), show (i * 5 + j) / 5 = i by omega, show (i * 5 + j) % 5 = j by omega]
      rfl
    exact ⟨one 0 (by omega), one 1 (by omega), one 2 (by omega), one 3 (by omega), one 4 (by omega)⟩
  · rw [show (sortWorldK encE 5 w S 0 m d' os).heap[S]? = (putRowK encE 5 (Sort.ahead w m) S 0 d').heap[S]? from heap_grow_old _ _ (by rw [hsz2]; exact hlt)]
    unfold putRowK putRow mapBlock
    simp only [Array.getElem?_modify, Sort.ahead]
    rw [hcs]
    exact ⟨_, rfl⟩
  · refine ⟨rfl, rfl, rfl, by simp [sortWorldK, putRowK, Sort.ahead], fun k hk hne => ?_⟩
    rw [show (sortWorldK encE 5 w S 0 m d' os).heap[k]? = (putRowK encE 5 (Sort.ahead w m) S 0 d').heap[k]? from heap_grow_old _ _ (by rw [hsz2]; exact hk)]
    unfold putRowK putRow mapBlock
    simp only [Array.getElem?_modify, Sort.ahead]
    rw [if_neg (fun e => hne e.symm)]

theorem sort_any {base S cap : Nat} {xs : List En} (w : World) (ho : w.ownsRow base 193 5 (.slice (some ⟨S, 0, none⟩) xs.length cap) xs.length (ec xs)) (hl : xs.length ≤ 2199023255552) :
    Calls Tryz.prog 139 #[.slice (some ⟨S, 0, none⟩) xs.length cap, .func (.func 140) #[] #[]] w fun e w' => e = .returned (.tuple #[]) ∧ ∃ ys : List En, ys.length = xs.length ∧ ys.Perm xs ∧ ys.Pairwise (fun a b => ¬ cf b a < 0) ∧ (∀ i, i < ys.length → w'.cell? ⟨S, i * 5, none⟩ = some (.string (ys.getD i ez).1) ∧ w'.cell? ⟨S, i * 5 + 1, none⟩ = some (.int .i64 (ys.getD i ez).2.v) ∧ w'.cell? ⟨S, i * 5 + 2, none⟩ = some (.string (ys.getD i ez).2.k) ∧ w'.cell? ⟨S, i * 5 + 3, none⟩ = some (.int .i64 (ys.getD i ez).2.s) ∧ w'.cell? ⟨S, i * 5 + 4, none⟩ = some (.pointer (ys.getD i ez).2.p)) ∧ (∃ cs, w'.heap[S]? = some (.cells cs 193 (0, 0))) ∧ Fr w w' (fun b => b = S) := by
  obtain ⟨hH, hb⟩ := own_holds ho
  obtain ⟨cs, hcs⟩ := hb
  have eg : ∀ args w, (callFunc 140 args).run Tryz.prog w = .ok (.enter 140 args) w := enters_of Tryz.func140 (by kernel_rfl) rfl
  have hcon := AnyQ.slices_SortFunc Tryz.sortER 5 Tryz.isAgg193 Tryz.sizeOf193 encE (fun _ => rfl) (fun x v hv => by simp [encE] at hv; rcases hv with rfl | rfl | rfl | rfl | rfl <;> rfl) cf swo_cf 140 #[] S 0 cap xs.toArray w eg (cmp_lays S 0 xs.toArray.size w) hH (lt_of_block hcs) (by simp; omega)
  change Calls Tryz.prog 139 _ _ _ at hcon
  refine hcon.mono ?_
  rintro e w' ⟨rfl, d', n, os, hp, hs, rfl⟩
  exact ⟨rfl, sorted_world hH ⟨cs, hcs⟩ hp hs⟩
end Go.Proofs.YtgbkihkefdoddaaGreatDoor.R
