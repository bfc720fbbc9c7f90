/- What a call leaves of memory (Fr), bytes as values (by8), a Writer's block with its row (Wr), and how these stand under allocations, stores and appends. Nothing of the program is used here. -/
import Derived.WalkKit
import Derived.Maps.AppendAt
import Derived.Deep.Draws
import Derived.Lib.AppendStr
import Derived.Laws.AppendOwnNone
import Derived.Laws.BytesArg
namespace Go.Proofs.Ytimefcmemklhpaa
open Go.RowKit

/-- Bytes as values. -/
def by8 (l : List Nat) : List Value := l.map (fun c : Nat => Value.int .u8 (c : Int))
theorem by8_length (l : List Nat) : (by8 l).length = l.length := by simp [by8]
theorem by8_append (a b : List Nat) : by8 (a ++ b) = by8 a ++ by8 b := by simp [by8]
theorem by8_one (l : List Nat) : ∀ u ∈ by8 l, u.oneCell' = true := by
  intro u hu
  simp only [by8, List.mem_map] at hu
  obtain ⟨c, _, rfl⟩ := hu
  rfl
theorem by8_get (l : List Nat) (j : Nat) (h : j < l.length) : (by8 l)[j]? = some (.int .u8 ((l.getD j 0 : Nat) : Int)) := by
  simp [by8, List.getD, h]

/-- What a call leaves: new blocks may have come; of the old ones only those of S may have turned. -/
structure Fr (w w' : World) (S : Nat → Prop) : Prop where
  os : w'.os = w.os
  tape : w'.tape = w.tape
  output : w'.output = w.output
  size : w.heap.size ≤ w'.heap.size
  block : ∀ k, k < w.heap.size → ¬ S k → w'.heap[k]? = w.heap[k]?

theorem Fr.refl (w : World) (S : Nat → Prop) : Fr w w S := ⟨rfl, rfl, rfl, Nat.le_refl _, fun _ _ _ => rfl⟩
theorem Fr.mono {w w' : World} {S T : Nat → Prop} (h : Fr w w' S) (hst : ∀ k, k < w.heap.size → S k → T k) : Fr w w' T :=
  ⟨h.os, h.tape, h.output, h.size, fun k hk hn => h.block k hk (fun hs => hn (hst k hk hs))⟩
theorem Fr.trans {a b c : World} {S : Nat → Prop} (h : Fr a b S) (k : Fr b c S) : Fr a c S :=
  ⟨k.os.trans h.os, k.tape.trans h.tape, k.output.trans h.output, Nat.le_trans h.size k.size, fun i hi hn => (k.block i (Nat.lt_of_lt_of_le hi h.size) hn).trans (h.block i hi hn)⟩
/-- The second step may turn what the first has made. -/
theorem Fr.trans2 {a b c : World} {S T : Nat → Prop} (h : Fr a b S) (k : Fr b c T) (hst : ∀ i, i < a.heap.size → T i → S i) : Fr a c S :=
  ⟨k.os.trans h.os, k.tape.trans h.tape, k.output.trans h.output, Nat.le_trans h.size k.size, fun i hi hn => (k.block i (Nat.lt_of_lt_of_le hi h.size) (fun ht => hn (hst i hi ht))).trans (h.block i hi hn)⟩
theorem Fr.drew {a w : World} {S : Nat → Prop} (h : Fr a w S) : Fr a w.drew S := ⟨h.os, h.tape, h.output, h.size, h.block⟩
theorem Fr.alloc {a w : World} {S : Nat → Prop} (h : Fr a w S) (o : Obj) : Fr a (w.alloc o) S :=
  h.trans ⟨rfl, rfl, rfl, by simp, fun k hk _ => Below.heap_alloc w o k hk⟩
theorem Fr.setCell {a w : World} {S : Nat → Prop} (h : Fr a w S) {p : Addr} (hp : p.block < a.heap.size → S p.block) (u : Value) : Fr a (w.setCell p u) S :=
  ⟨h.os, h.tape, h.output, by have := h.size; simp [World.setCell]; omega, fun k hk hn => by
    rw [Below.heap_setCell _ _ _ _ (fun e => hn (by subst e; exact hp hk))]; exact h.block k hk hn⟩
theorem Fr.grown {a w w' : World} {S : Nat → Prop} {row : Option Nat} (h : Fr a w S) (hg : w.grownBy w' row) (hr : ∀ k, k < a.heap.size → row = some k → S k) : Fr a w' S :=
  ⟨hg.os.trans h.os, hg.tape.trans h.tape, hg.output.trans h.output, Nat.le_trans h.size hg.size, fun k hk hn =>
    (hg.block k (Nat.lt_of_lt_of_le hk h.size) (fun e => hn (hr k hk e.symm))).trans (h.block k hk hn)⟩
theorem Fr.below {N : Nat} {w w' : World} {S : Nat → Prop} (h : Fr w w' S) (hN : N ≤ w.heap.size) (hs : ∀ k, S k → N ≤ k) : Below N w w' :=
  ⟨h.os, h.tape, h.output, h.size, fun k hk => h.block k (Nat.lt_of_lt_of_le hk hN) (fun e => by have := hs k e; omega)⟩
theorem Fr.ofBelow {w w' : World} {S : Nat → Prop} (h : Below w.heap.size w w') : Fr w w' S :=
  ⟨h.os, h.tape, h.output, h.size, fun k hk _ => h.block k hk⟩

/-- A row stays owned under a frame that leaves its block alone. -/
theorem own_fr {w w' : World} {S : Nat → Prop} {base : Nat} {e : TypeId} {size : Nat} {v : Value} {n : Nat} {xs : List Value} (h : w.ownsRow base e size v n xs) (hf : Fr w w' S) (hv : ∀ k, v.ownBlock = some k → ¬ S k) : w'.ownsRow base e size v n xs := by
  obtain ⟨h1, h2⟩ := h
  refine ⟨h1, ?_⟩
  rcases h2 with h2 | ⟨g, cap, cur, rfl, hg, hh, r⟩
  · exact Or.inl h2
  · exact Or.inr ⟨g, cap, cur, rfl, hg, by rw [hf.block g (lt_of_block hh) (hv g rfl)]; exact hh, r⟩

/-- Where the new row lies: where the old one lay, or in a block that was not there. -/
def Nw (w : World) (v v' : Value) : Prop := ∀ k, v'.ownBlock = some k → v.ownBlock = some k ∨ w.heap.size ≤ k
theorem Nw.refl (w : World) (v : Value) : Nw w v v := fun _ h => Or.inl h
theorem Nw.trans {w w1 : World} {a b c : Value} (h : Nw w a b) (k : Nw w1 b c) (hs : w.heap.size ≤ w1.heap.size) : Nw w a c := by
  intro i hi
  rcases k i hi with k | k
  · exact h i k
  · exact Or.inr (Nat.le_trans hs k)
theorem Nw.of {w : World} {v v' : Value} {n : Nat} (h : v'.ownBlock = v.ownBlock ∨ v'.ownBlock = some n) (hn : w.heap.size ≤ n) : Nw w v v' := by
  intro k hk
  rcases h with h | h
  · exact Or.inl (h ▸ hk)
  · rw [h] at hk; cases hk; exact Or.inr hn
theorem Nw.nil (w : World) (v : Value) : Nw w v (.slice none 0 0) := fun k h => by simp [Value.ownBlock] at h

/-- A Writer at block B (a block of type T), what its slice is, and the bytes that are laid. -/
structure Wr (T E : Nat) (w : World) (base B : Nat) (v : Value) (xs : List Nat) : Prop where
  cell : w.heap[B]? = some (.cells #[v] T (0, 0))
  own : w.ownsRow base E 1 v xs.length (by8 xs)

theorem Wr.ne {T E : Nat} {w : World} {base B : Nat} {v : Value} {xs : List Nat} (h : Wr T E w base B v xs) (hte : T ≠ E) : v.ownBlock ≠ some B := by
  intro e
  rcases h.own.2 with ⟨rfl, _⟩ | ⟨g, cap, cur, rfl, _, hg, _⟩
  · simp [Value.ownBlock] at e
  · simp [Value.ownBlock] at e
    subst e
    rw [h.cell] at hg
    simp at hg
    exact hte hg.2

theorem Wr.fr {T E : Nat} {w w' : World} {S : Nat → Prop} {base B : Nat} {v : Value} {xs : List Nat} (h : Wr T E w base B v xs) (hf : Fr w w' S) (hB : ¬ S B) (hv : ∀ k, v.ownBlock = some k → ¬ S k) : Wr T E w' base B v xs :=
  ⟨by rw [hf.block B (lt_of_block h.cell) hB]; exact h.cell, own_fr h.own hf hv⟩

/-- Behind a store of the slice into the Writer. -/
theorem Wr.stored {T E : Nat} {w : World} {base B : Nat} {v v' : Value} {xs : List Nat} (hc : w.heap[B]? = some (.cells #[v] T (0, 0))) (ho : w.ownsRow base E 1 v' xs.length (by8 xs)) (hne : v'.ownBlock ≠ some B) : Wr T E (w.setCell ⟨B, 0, none⟩ v') base B v' xs :=
  ⟨one_setCell hc, ownsRow_setCell_other ho hne _⟩

theorem own_nil_shape {w : World} {base : Nat} {e : TypeId} {size : Nat} {v : Value} {n : Nat} {xs : List Value} (h : w.ownsRow base e size v n xs) : ∃ ao cap, v = .slice ao n cap := by
  rcases h.2 with ⟨rfl, rfl⟩ | ⟨g, cap, cur, rfl, _⟩
  · exact ⟨_, _, rfl⟩
  · exact ⟨_, _, rfl⟩

/-- The number of a value's row block, where it has one, is below the heap's size. -/
theorem own_lt {w : World} {base : Nat} {e : TypeId} {size : Nat} {v : Value} {n : Nat} {xs : List Value} (h : w.ownsRow base e size v n xs) {k : Nat} (hk : v.ownBlock = some k) : k < w.heap.size := (h.lt k hk).2

/-- A row's block differs from a block of another element type. -/
theorem own_ne {w : World} {base : Nat} {e t : TypeId} {size : Nat} {v : Value} {n : Nat} {xs : List Value} {B : Nat} {cs : Array Value} {z : Nat × Nat} (h : w.ownsRow base e size v n xs) (hB : w.heap[B]? = some (.cells cs t z)) (hte : t ≠ e) : v.ownBlock ≠ some B := by
  intro k
  rcases h.2 with ⟨rfl, _⟩ | ⟨g, cap, cur, rfl, _, hg, _⟩
  · simp [Value.ownBlock] at k
  · simp [Value.ownBlock] at k
    subst k
    rw [hB] at hg
    simp at hg
    exact hte hg.2.1

theorem Nw.lt {w : World} {v v' : Value} (h : Nw w v v') {k : Nat} (hk : v'.ownBlock = some k) (hlt : k < w.heap.size) : v.ownBlock = some k := by
  rcases h k hk with h | h
  · exact h
  · omega

/-- One append of a Writer, stored: wa is the world at the append, w1 the one behind it. -/
theorem wr_step {T E : Nat} (hte : T ≠ E) {w wr wa w1 : World} {base B m H : Nat} {v0 v1 v2 : Value} {ys cs : List Nat}
    (hfr : Fr w wr (fun k => k = B ∨ v0.ownBlock = some k)) (hnw : Nw w v0 v1) (hW : Wr T E wr base B v1 ys) (hfa : Fr wr wa (fun _ => False)) (hm : cs.length = m)
    (hown : w1.ownsRow base E 1 v2 (ys.length + m) (by8 ys ++ by8 cs)) (hg : wa.grownBy w1 v1.ownBlock) (hat : v2.ownBlock = v1.ownBlock ∨ v2.ownBlock = some H) (hH : wa.heap.size = H) :
    Wr T E (w1.setCell ⟨B, 0, none⟩ v2) base B v2 (ys ++ cs) ∧ Fr w (w1.setCell ⟨B, 0, none⟩ v2) (fun k => k = B ∨ v0.ownBlock = some k) ∧ Nw w v0 v2 ∧ w1.heap[B]? = some (.cells #[v1] T (0, 0)) := by
  subst hH
  have hlt := lt_of_block hW.cell
  have hne := hW.ne hte
  have hsa := hfa.size
  have hsw := hfr.size
  have hcb : w1.heap[B]? = some (.cells #[v1] T (0, 0)) := by
    rw [hg.block B (by omega) (fun e => hne e.symm), hfa.block B hlt (fun h => h)]
    exact hW.cell
  have hnw2 : Nw wr v1 v2 := Nw.of hat hsa
  refine ⟨Wr.stored hcb ?_ ?_, ?_, hnw.trans hnw2 hsw, hcb⟩
  · have e : (ys ++ cs).length = ys.length + m := by rw [List.length_append, hm]
    rw [e, by8_append]
    exact hown
  · intro e
    rcases hat with h | h
    · exact hne (h ▸ e)
    · rw [h] at e; cases e; omega
  · refine Fr.setCell ?_ (fun _ => Or.inl rfl) _
    refine Fr.grown (hfr.trans2 hfa (fun _ _ h => h.elim)) hg (fun k hk e => Or.inr (hnw.lt e hk))

theorem alloc_fr (w : World) (o : Obj) (S : Nat → Prop) : Fr w (w.alloc o) S := (Fr.refl _ _).alloc _

theorem cells_new (w : World) (x : Value) (e : TypeId) : ∀ (j : Nat) (u : Value), [x][j]? = some u → (w.alloc (.cells #[x] e)).cell? ((⟨w.heap.size, 0, none⟩ : Addr).add j) = some u := by
  intro j u hj
  match j, hj with
  | 0, hj => simp at hj; subst hj; simp [Addr.add]

/-- Bytes that can be read at a slice: a nil one, or cells behind one another. -/
def Bs (w : World) (v : Value) (xs : List Nat) : Prop :=
  (v = .slice none 0 0 ∧ xs = []) ∨ ∃ a cap, v = .slice (some a) xs.length cap ∧ ∀ j u, (by8 xs)[j]? = some u → w.cell? (a.add j) = some u

theorem own_mono {w : World} {base base' : Nat} {e : TypeId} {size : Nat} {v : Value} {n : Nat} {xs : List Value} (h : w.ownsRow base e size v n xs) (hb : base' ≤ base) : w.ownsRow base' e size v n xs := by
  obtain ⟨h1, h2⟩ := h
  refine ⟨h1, ?_⟩
  rcases h2 with h2 | ⟨g, cap, cur, hv, hg, r⟩
  · exact Or.inl h2
  · exact Or.inr ⟨g, cap, cur, hv, Nat.le_trans hb hg, r⟩

theorem own_bs {w : World} {base : Nat} {e : TypeId} {v : Value} {xs : List Nat} (h : w.ownsRow base e 1 v xs.length (by8 xs)) : Bs w v xs := by
  rcases h.2 with ⟨rfl, h0⟩ | ⟨g, cap, cur, rfl, _⟩
  · exact Or.inl ⟨rfl, List.eq_nil_of_length_eq_zero h0⟩
  · exact Or.inr ⟨⟨g, 0, none⟩, cap, rfl, h.cells (g := g) rfl⟩

theorem block_of_add (a : Addr) (j : Nat) : (a.add j).block = a.block := by unfold Addr.add; split <;> simp_all

theorem Bs.keep {w w' : World} {v : Value} {xs : List Nat} (h : Bs w v xs) (hk : ∀ (a j : Nat) (u : Value), v.ownBlock = some a → (by8 xs)[j]? = some u → w'.heap[a]? = w.heap[a]?) : Bs w' v xs := by
  rcases h with h | ⟨a, cap, rfl, h⟩
  · exact Or.inl h
  · refine Or.inr ⟨a, cap, rfl, fun j u hu => ?_⟩
    rw [World.cell?_of_block (w := w) (by rw [block_of_add]; exact hk a.block j u rfl hu)]
    exact h j u hu

theorem Bs.lt {w : World} {v : Value} {xs : List Nat} (h : Bs w v xs) {k : Nat} (hk : v.ownBlock = some k) (hx : xs ≠ []) : k < w.heap.size := by
  rcases h with ⟨rfl, _⟩ | ⟨a, cap, rfl, h⟩
  · simp [Value.ownBlock] at hk
  · simp [Value.ownBlock] at hk
    subst hk
    have h0 : 0 < xs.length := List.length_pos_iff.2 hx
    have := World.block_lt_of_cell? w _ (h 0 _ (by8_get xs 0 h0))
    rwa [block_of_add] at this

theorem Bs.fr {w w' : World} {S : Nat → Prop} {v : Value} {xs : List Nat} (h : Bs w v xs) (hf : Fr w w' S) (hS : ∀ k, v.ownBlock = some k → ¬ S k) : Bs w' v xs :=
  h.keep fun a j u ha hu => hf.block a (h.lt ha (by intro e; subst e; simp [by8] at hu)) (hS a ha)

/-- Bytes as a string. -/
def str8 (xs : List Nat) : ByteArray := ⟨(xs.map fun n => UInt8.ofNat n).toArray⟩
theorem str8_size (xs : List Nat) : (str8 xs).size = xs.length := by simp [str8, ByteArray.size]

theorem run_str8 {P : Program} {w : World} {src dst e : TypeId} (hs : P.underlying src = some (.slice e)) (he : P.underlying e = some (.int .u8)) (hd : P.underlying dst = some .string) {v : Value} {xs : List Nat} (h : Bs w v xs) :
    (convert src dst v).run P w = .ok (.string (str8 xs)) w := by
  rcases h with ⟨rfl, rfl⟩ | ⟨a, cap, rfl, h⟩
  · exact run_convert_bytes_nil w src e hs he 0 0 dst hd
  · have hl : (loadCells a xs.length).run P w = .ok ((xs.map Int.ofNat).map (Value.int .u8)).toArray w := by
      have := run_loadCells_list (P := P) w a (by8 xs) h
      rw [by8_length] at this
      rw [this]
      simp [by8]
    rw [run_convert_bytes_string w src dst e _ _ cap hs he hd, run_bytesToString w a _ cap (xs.map Int.ofNat) hl, foldl_push_bytes]
    simp [str8, ByteArray.empty, ByteArray.emptyWithCapacity]
    rfl

/-- Appending a string's bytes to what is owned: as the library's law, and where the new slice lies. -/
theorem run_append_str_at {P : Program} (w : World) (base : Nat) (t u ty e : TypeId) (i : TypeInfo) (ht : P.underlying t = some (.slice e)) (hu : P.underlying u = some .string) (hi : P.info? e = some i) (hz : i.zero = some (.int .u8 0))
    (hsize : i.size = 1) (hby : i.bytes = 1) (v : Value) (n : Nat) (xs : List Value) (hown : w.ownsRow base e 1 v n xs) (s : ByteArray) (hbytes : n + s.size ≤ 140737488355328) (hbase : base ≤ w.heap.size) :
    ∃ v' w', (Builtin.append_ #[t, u] ty #[v, .string s]).run P w = .ok v' w' ∧ w'.ownsRow base e 1 v' (n + s.size) (xs ++ Lib.strCells s) ∧ w.grownBy w' v.ownBlock ∧ (v'.ownBlock = v.ownBlock ∨ v'.ownBlock = some w.heap.size) := by
  obtain ⟨v', w', hr, h2, h3, h4⟩ := Lib.run_append_own_string (P := P) w base t u ty e i ht hu hi hz hsize hby v n xs hown s (by unfold maxLen; omega) hbytes hbase
  refine ⟨v', w', hr, h2, h3, ?_⟩
  have hxl : xs.length = n := by simpa using hown.1
  rcases hown.2 with ⟨rfl, rfl⟩ | ⟨g, cap, cur, rfl, hbg, hg, hnc, hcm, hcs, htake⟩
  · by_cases hm : s.size = 0
    · left
      rw [h4.2 ⟨rfl, hm⟩]
    · have hr2 := run_append_nil_string (P := P) w t u ty e i (.int .u8 0) ht hu hi hz s (by omega) (by omega) (by rw [hby]; omega)
      rw [hr] at hr2
      right
      simp only [Result.ok.injEq] at hr2
      rw [hr2.1]
      rfl
  · by_cases hroom : n + s.size ≤ cap
    · have hcs' : cur.size = cap := by simpa using hcs
      have hr2 := Lib.run_append_room_string (P := P) w t u ty e i ht hu hi hsize g n cap cur hg s hroom (by omega)
      rw [hr] at hr2
      left
      simp only [Result.ok.injEq] at hr2
      rw [hr2.1]
      rfl
    · have holds : ∀ j u, xs[j]? = some u → w.cell? ((⟨g, 0, none⟩ : Addr).add j) = some u := hown.cells (g := g) rfl
      have hr2 := Lib.run_append_grow_string (P := P) w t u ty e i (.int .u8 0) ht hu hi hz ⟨g, 0, none⟩ n cap xs (by rw [hsize]; simpa using hxl) holds s (by omega) (by omega) (by rw [hby]; exact growslice_fits (by omega) (by omega))
      rw [hr] at hr2
      right
      simp only [Result.ok.injEq] at hr2
      rw [hr2.1]
      rfl

theorem wpList_append_str_at {P : Program} (w : World) {ops : Array Oper} {rest : List Oper} {o : Oper} {a : Act} {Q : Exit → Act → World → Prop} (hgd : o.guard = none) (sl x : Operand) (t u : TypeId)
    (ho : o.op = .call { callee := .builtin .append, args := #[sl, x], argTypes := #[t, u] })
    (base : Nat) (e : TypeId) (i : TypeInfo) (ht : P.underlying t = some (.slice e)) (hu : P.underlying u = some .string) (hi : P.info? e = some i) (hz : i.zero = some (.int .u8 0))
    (hsize : i.size = 1) (hby : i.bytes = 1)
    (v : Value) (n : Nat) (xs : List Value) (hs : a.eval sl = v) (hown : w.ownsRow base e 1 v n xs) (s : ByteArray) (hx : a.eval x = .string s)
    (hbytes : n + s.size ≤ 140737488355328) (hbase : base ≤ w.heap.size)
    (h : ∀ v' w', w'.ownsRow base e 1 v' (n + s.size) (xs ++ Lib.strCells s) → w.grownBy w' v.ownBlock → (v'.ownBlock = v.ownBlock ∨ v'.ownBlock = some w.heap.size) → wpList P ops Q rest (a.put o.dst v') w') : wpList P ops Q (o :: rest) a w := by
  refine wpList_plain hgd fun K hK => ?_
  obtain ⟨v', w', hr, h2, h3, h4⟩ := run_append_str_at (P := P) w base t u o.type e i ht hu hi hz hsize hby v n xs hown s hbytes hbase
  unfold Oper.wp execOp
  simp only [ho, resolve, invoke, builtin, Sem.run_bind, Sem.run_pure, Result.andThen_ok, List.map_toArray, List.map_cons, List.map_nil, hs, hx, hr]
  exact hK _ _ (h v' w' h2 h3 h4)

/-- A string's bytes as numbers. -/
def nums8 (s : ByteArray) : List Nat := s.data.toList.map UInt8.toNat
theorem nums8_cells (s : ByteArray) : Lib.strCells s = by8 (nums8 s) := by simp [Lib.strCells, by8, nums8]
theorem nums8_length (s : ByteArray) : (nums8 s).length = s.size := by simp [nums8]

/-- A slice that was just laid. -/
theorem lit_own (w : World) (xs : List Nat) (cs : Array Value) (e : TypeId) (n : Nat) (hcs : cs.toList = by8 xs) (hn : xs.length = n) (hm : n ≤ 140737488355328) : (w.alloc (.cells cs e)).ownsRow w.heap.size e 1 (.slice (some ⟨w.heap.size, 0, none⟩) n n) xs.length (by8 xs) := by
  subst hn
  have h := World.ownsRow_lit (size := 1) (e := e) w cs xs.length (Nat.le_refl _) (by unfold maxLen; omega) (by rw [← Array.length_toList, hcs, by8_length, Nat.mul_one])
  rw [hcs] at h
  exact h

theorem Fr.drewN {a w : World} {S : Nat → Prop} (h : Fr a w S) (n : Nat) : Fr a (w.drewN n) S := ⟨h.os, h.tape, h.output, h.size, h.block⟩
theorem Fr.ofDrew {w w' : World} {S : Nat → Prop} (h : Fr w.drew w' S) : Fr w w' S := ⟨h.os, h.tape, h.output, h.size, h.block⟩
theorem Fr.ofDrewN {w w' : World} {S : Nat → Prop} {n : Nat} (h : Fr (w.drewN n) w' S) : Fr w w' S := ⟨h.os, h.tape, h.output, h.size, h.block⟩

end Go.Proofs.Ytimefcmemklhpaa
