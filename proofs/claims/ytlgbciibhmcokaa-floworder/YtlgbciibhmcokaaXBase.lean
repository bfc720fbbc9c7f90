/- flow: a flow in memory. -/
import Derived.Test.YtlgbciibhmcokaaXAddRI
import Derived.Test.YtlgbciibhmcokaaXAddRM
namespace Go.Proofs.Ytlgbciibhmcokaa
open Go.RowKit

def keyB (k : ByteArray) : Bool := decide (1 ≤ k.size ∧ k.size ≤ 32)
/-- What check tells of an item. -/
def errC (x : It) : Int := if x.m = false ∧ keyB x.k = false then 21 else if ¬ (-1152921504606846976 ≤ x.t ∧ x.t ≤ 1152921504606846976) then 22 else if x.m = true ∧ (x.k.size ≠ 0 ∨ x.v ≠ 0) then 16 else 0
/-- A feed: its ring, its list, the next operator; a box: its ring, its list. -/
structure Fd where
  v : Value
  st : Nat
  q : List It
  n : Nat
structure Bx where
  v : Value
  st : Nat
  ms : List Ms
def fd0 : Fd := ⟨.slice none 0 0, 0, [], 0⟩
def bx0 : Bx := ⟨.slice none 0 0, 0, []⟩
def fc (f : Fd) : List Value := [f.v, .int .i64 (f.st : Int), .int .i64 (f.q.length : Int), .int .i64 ((65536 : Nat) : Int), .int .i64 (f.n : Int)]
def bc (box : Nat) (x : Bx) : List Value := [x.v, .int .i64 (x.st : Int), .int .i64 (x.ms.length : Int), .int .i64 (box : Int)]
theorem fc_len (f : Fd) : (fc f).length = 5 := rfl
theorem bc_len (box : Nat) (x : Bx) : (bc box x).length = 4 := rfl
/-- Where a flow lies. -/
structure Fx where
  B : Nat
  F : Nat
  X : Nat
  cf : Nat
  cx : Nat
  fs : List Fd
  xs : List Bx
  rf : List Value
  rx : List Value
/-- A flow's state: queues, next operators, boxes. -/
structure Ps where
  q : List (List It)
  n : List Nat
  b : List (List Ms)
def Fx.ps (g : Fx) : Ps := ⟨g.fs.map (·.q), g.fs.map (·.n), g.xs.map (·.ms)⟩
/-- A flow's own blocks. -/
def Fx.ow (g : Fx) (k : Nat) : Prop := k = g.B ∨ k = g.F ∨ k = g.X ∨ (∃ i, i < g.fs.length ∧ (g.fs.getD i fd0).v.ownBlock = some k) ∨ (∃ j, j < g.xs.length ∧ (g.xs.getD j bx0).v.ownBlock = some k)
structure Fw (w : World) (g : Fx) (box : Nat) : Prop where
  cell : w.heap[g.B]? = some (.cells #[.slice (some ⟨g.F, 0, none⟩) g.fs.length g.cf, .slice (some ⟨g.X, 0, none⟩) g.xs.length g.cx] 60 (0, 0))
  feeds : Row fc 64 w g.F g.fs g.rf
  boxes : Row (bc box) 67 w g.X g.xs g.rx
  fr : ∀ i, i < g.fs.length → RI.RR w (g.fs.getD i fd0).v (g.fs.getD i fd0).st (g.fs.getD i fd0).q ∧ (g.fs.getD i fd0).q.length ≤ 65536 ∧ (g.fs.getD i fd0).n < g.xs.length ∧ ∀ x ∈ (g.fs.getD i fd0).q, errC x = 0
  br : ∀ j, j < g.xs.length → RM.RR w (g.xs.getD j bx0).v (g.xs.getD j bx0).st (g.xs.getD j bx0).ms ∧ (g.xs.getD j bx0).ms.length ≤ box
  fap : ∀ i j k, i < g.fs.length → j < g.fs.length → (g.fs.getD i fd0).v.ownBlock = some k → (g.fs.getD j fd0).v.ownBlock = some k → i = j
  bap : ∀ i j k, i < g.xs.length → j < g.xs.length → (g.xs.getD i bx0).v.ownBlock = some k → (g.xs.getD j bx0).v.ownBlock = some k → i = j
  nf : 1 ≤ g.fs.length ∧ g.fs.length ≤ 8
  nb : 1 ≤ g.xs.length ∧ g.xs.length ≤ 8
  bx : 1 ≤ box ∧ box ≤ 64
theorem Fw.step {w w' : World} {S : Nat → Prop} {g : Fx} {box : Nat} (h : Fw w g box) (hf : Fr w w' S) (hS : ∀ k, g.ow k → ¬ S k) : Fw w' g box :=
  ⟨keep_block h.cell hf (hS _ (Or.inl rfl)), h.feeds.fr hf (hS _ (Or.inr (Or.inl rfl))), h.boxes.fr hf (hS _ (Or.inr (Or.inr (Or.inl rfl)))),
   fun i hi => ⟨(h.fr i hi).1.fr hf (fun k hk => hS k (Or.inr (Or.inr (Or.inr (Or.inl ⟨i, hi, hk⟩))))), (h.fr i hi).2⟩,
   fun j hj => ⟨(h.br j hj).1.fr hf (fun k hk => hS k (Or.inr (Or.inr (Or.inr (Or.inr ⟨j, hj, hk⟩))))), (h.br j hj).2⟩, h.fap, h.bap, h.nf, h.nb, h.bx⟩
theorem Fw.still {w w' : World} {g : Fx} {box : Nat} (h : Fw w g box) (hf : Fr w w' (fun _ => False)) : Fw w' g box := h.step hf (fun _ _ h => h)
theorem Fw.lt {w : World} {g : Fx} {box : Nat} (h : Fw w g box) {k : Nat} (hk : g.ow k) : k < w.heap.size := by
  rcases hk with rfl | rfl | rfl | ⟨i, hi, hk⟩ | ⟨j, hj, hk⟩
  · exact lt_of_block h.cell
  · exact h.feeds.lt
  · exact h.boxes.lt
  · exact (h.fr i hi).1.lt hk
  · exact (h.br j hj).1.lt hk
/-- The blocks of a flow behind a call: those of before, and new ones. -/
def Gr (w : World) (O O' : Nat → Prop) : Prop := ∀ k, O' k → O k ∨ w.heap.size ≤ k
theorem Gr.refl (w : World) (O : Nat → Prop) : Gr w O O := fun _ h => Or.inl h
theorem block_ne {w : World} {a b : Nat} {cs ds : Array Value} {S T : TypeId} {y z : Nat × Nat} (ha : w.heap[a]? = some (.cells cs S y)) (hb : w.heap[b]? = some (.cells ds T z)) (h : S ≠ T) : a ≠ b := by
  intro e
  subst e
  rw [ha] at hb
  simp at hb
  exact h hb.2.1
theorem Fw.cells {w : World} {g : Fx} {box : Nat} (h : Fw w g box) : w.cell? ⟨g.B, 0, none⟩ = some (.slice (some ⟨g.F, 0, none⟩) g.fs.length g.cf) ∧ w.cell? ⟨g.B, 1, none⟩ = some (.slice (some ⟨g.X, 0, none⟩) g.xs.length g.cx) ∧ g.B < w.heap.size :=
  ⟨by simp [World.cell?, h.cell], by simp [World.cell?, h.cell], lt_of_block h.cell⟩
/-- A feed's ring inside its block. -/
theorem Fw.feed {w : World} {g : Fx} {box : Nat} (h : Fw w g box) {i : Nat} (hi : i < g.fs.length) : RB w g.F 64 (fl fc (g.fs.take i)) ([.int .i64 ((g.fs.getD i fd0).n : Int)] ++ (fl fc (g.fs.drop (i + 1)) ++ g.rf)) (g.fs.getD i fd0).v (g.fs.getD i fd0).st (g.fs.getD i fd0).q.length 65536 := by
  have h0 : w.heap[g.F]? = some (.cells (fl fc g.fs ++ g.rf).toArray 64 (0, 0)) := h.feeds
  rw [fl_parts fc hi fd0] at h0
  unfold RB
  rw [h0]
  simp [fc]
theorem take_len (fs : List Fd) {i : Nat} (hi : i < fs.length) : (fl fc (fs.take i)).length = i * 5 := by rw [fl_length fc_len, List.length_take, Nat.min_eq_left (by omega)]
theorem takeb_len (box : Nat) (xs : List Bx) {i : Nat} (hi : i < xs.length) : (fl (bc box) (xs.take i)).length = i * 4 := by rw [fl_length (bc_len box), List.length_take, Nat.min_eq_left (by omega)]
theorem row_feed {w : World} {F : Nat} {fs : List Fd} {rf : List Value} {i : Nat} (hi : i < fs.length) (y : Fd) (h : RB w F 64 (fl fc (fs.take i)) ([.int .i64 (y.n : Int)] ++ (fl fc (fs.drop (i + 1)) ++ rf)) y.v y.st y.q.length 65536) : Row fc 64 w F (fs.set i y) rf := by
  unfold Row
  rw [fl_set fc hi]
  unfold RB at h
  rw [h]
  simp [fc]
theorem Fw.box {w : World} {g : Fx} {box : Nat} (h : Fw w g box) {i : Nat} (hi : i < g.xs.length) : RB w g.X 67 (fl (bc box) (g.xs.take i)) (fl (bc box) (g.xs.drop (i + 1)) ++ g.rx) (g.xs.getD i bx0).v (g.xs.getD i bx0).st (g.xs.getD i bx0).ms.length box := by
  have h0 : w.heap[g.X]? = some (.cells (fl (bc box) g.xs ++ g.rx).toArray 67 (0, 0)) := h.boxes
  rw [fl_parts (bc box) hi bx0] at h0
  unfold RB
  rw [h0]
  simp [bc]
theorem row_box {w : World} {F box : Nat} {xs : List Bx} {rx : List Value} {i : Nat} (hi : i < xs.length) (y : Bx) (h : RB w F 67 (fl (bc box) (xs.take i)) (fl (bc box) (xs.drop (i + 1)) ++ rx) y.v y.st y.ms.length box) : Row (bc box) 67 w F (xs.set i y) rx := by
  unfold Row
  rw [fl_set (bc box) hi]
  unfold RB at h
  rw [h]
  simp [bc]
theorem getD_set_if {α : Type} {L : List α} {i : Nat} (hi : i < L.length) (y z : α) (j : Nat) : (L.set i y).getD j z = if j = i then y else L.getD j z := by
  split
  · rename_i e; subst e; exact getD_set_same hi y z
  · exact getD_set_other (by assumption) y z
/-- The flow behind a change of one feed's ring. -/
def Fx.setF (g : Fx) (i : Nat) (y : Fd) : Fx := { g with fs := g.fs.set i y }
def Fx.setX (g : Fx) (i : Nat) (y : Bx) : Fx := { g with xs := g.xs.set i y }
theorem Fw.setF {w w' : World} {g : Fx} {box : Nat} (h : Fw w g box) {i : Nat} (hi : i < g.fs.length) {y : Fd} (hf : Fr w w' (fun k => k = g.F ∨ (g.fs.getD i fd0).v.ownBlock = some k)) (hb : RB w' g.F 64 (fl fc (g.fs.take i)) ([.int .i64 (y.n : Int)] ++ (fl fc (g.fs.drop (i + 1)) ++ g.rf)) y.v y.st y.q.length 65536) (hr : RI.RR w' y.v y.st y.q) (hn : Nw w (g.fs.getD i fd0).v y.v) (hl : y.q.length ≤ 65536) (hy : y.n < g.xs.length) (hx : ∀ x ∈ y.q, errC x = 0) : Fw w' (g.setF i y) box ∧ Gr w g.ow (g.setF i y).ow ∧ Fr w w' g.ow := by
  have hBF : g.B ≠ g.F := block_ne h.cell h.feeds (by decide)
  have hXF : g.X ≠ g.F := block_ne h.boxes h.feeds (by decide)
  have hBo : ∀ j, j < g.fs.length → (g.fs.getD j fd0).v.ownBlock ≠ some g.B := fun j hj => (h.fr j hj).1.ne h.cell (by decide)
  have hXo : ∀ j, j < g.fs.length → (g.fs.getD j fd0).v.ownBlock ≠ some g.X := fun j hj => (h.fr j hj).1.ne h.boxes (by decide)
  have hFo : ∀ j, j < g.fs.length → (g.fs.getD j fd0).v.ownBlock ≠ some g.F := fun j hj => (h.fr j hj).1.ne h.feeds (by decide)
  have hFx : ∀ j, j < g.xs.length → (g.xs.getD j bx0).v.ownBlock ≠ some g.F := fun j hj => (h.br j hj).1.ne h.feeds (by decide)
  have hlen : (g.fs.set i y).length = g.fs.length := List.length_set
  have hox : ∀ j k, j < g.xs.length → (g.xs.getD j bx0).v.ownBlock = some k → (g.fs.getD i fd0).v.ownBlock ≠ some k := by
    intro j k hj hk e
    rcases (h.fr i hi).1 with ⟨h1, _⟩ | ⟨a, R, h1, h2, _⟩
    · rw [h1] at e; simp [Value.ownBlock] at e
    · rw [h1] at e
      simp [Value.ownBlock] at e
      subst e
      exact (h.br j hj).1.ne h2 (by decide) hk
  refine ⟨⟨?_, row_feed hi y hb, h.boxes.fr hf ?_, ?_, ?_, ?_, h.bap, ?_, h.nb, h.bx⟩, ?_, hf.mono ?_⟩
  · show w'.heap[g.B]? = some (.cells #[.slice (some ⟨g.F, 0, none⟩) (g.fs.set i y).length g.cf, .slice (some ⟨g.X, 0, none⟩) g.xs.length g.cx] 60 (0, 0))
    rw [hlen]
    exact keep_block h.cell hf (fun h => h.elim hBF (hBo i hi))
  · exact fun h => h.elim hXF (hXo i hi)
  · intro j hj
    replace hj : j < g.fs.length := by rw [← hlen]; exact hj
    show RI.RR w' ((g.fs.set i y).getD j fd0).v ((g.fs.set i y).getD j fd0).st ((g.fs.set i y).getD j fd0).q ∧ ((g.fs.set i y).getD j fd0).q.length ≤ 65536 ∧ ((g.fs.set i y).getD j fd0).n < g.xs.length ∧ ∀ x ∈ ((g.fs.set i y).getD j fd0).q, errC x = 0
    rw [getD_set_if hi]
    split
    · exact ⟨hr, hl, hy, hx⟩
    · rename_i hne
      refine ⟨(h.fr j hj).1.fr hf ?_, (h.fr j hj).2⟩
      rintro k hk (e | e)
      · subst e; exact hFo j hj hk
      · exact hne (h.fap j i k hj hi hk e)
  · intro j hj
    refine ⟨(h.br j hj).1.fr hf ?_, (h.br j hj).2⟩
    rintro k hk (e | e)
    · subst e; exact hFx j hj hk
    · exact hox j k hj hk e
  · intro a b k ha hb' hka hkb
    replace ha : a < g.fs.length := by rw [← hlen]; exact ha
    replace hb' : b < g.fs.length := by rw [← hlen]; exact hb'
    change ((g.fs.set i y).getD a fd0).v.ownBlock = some k at hka
    change ((g.fs.set i y).getD b fd0).v.ownBlock = some k at hkb
    rw [getD_set_if hi] at hka hkb
    have key : ∀ j, j < g.fs.length → j ≠ i → (g.fs.getD j fd0).v.ownBlock = some k → y.v.ownBlock = some k → False := by
      intro j hj hne h1 h2
      rcases hn k h2 with h3 | h3
      · exact hne (h.fap j i k hj hi h1 h3)
      · have := (h.fr j hj).1.lt h1; omega
    split at hka <;> split at hkb
    · omega
    · exact (key b hb' (by assumption) hkb hka).elim
    · exact (key a ha (by assumption) hka hkb).elim
    · exact h.fap a b k ha hb' hka hkb
  · show 1 ≤ (g.fs.set i y).length ∧ (g.fs.set i y).length ≤ 8
    rw [hlen]; exact h.nf
  · rintro k (e | e | e | ⟨j, hj, hk⟩ | e)
    · exact Or.inl (Or.inl e)
    · exact Or.inl (Or.inr (Or.inl e))
    · exact Or.inl (Or.inr (Or.inr (Or.inl e)))
    · replace hj : j < g.fs.length := by rw [← hlen]; exact hj
      change ((g.fs.set i y).getD j fd0).v.ownBlock = some k at hk
      rw [getD_set_if hi] at hk
      split at hk
      · rcases hn k hk with h3 | h3
        · exact Or.inl (Or.inr (Or.inr (Or.inr (Or.inl ⟨i, hi, h3⟩))))
        · exact Or.inr h3
      · exact Or.inl (Or.inr (Or.inr (Or.inr (Or.inl ⟨j, hj, hk⟩))))
    · exact Or.inl (Or.inr (Or.inr (Or.inr (Or.inr e))))
  · rintro k _ (e | e)
    · exact Or.inr (Or.inl e)
    · exact Or.inr (Or.inr (Or.inr (Or.inl ⟨i, hi, e⟩)))
theorem Fw.setX {w w' : World} {g : Fx} {box : Nat} (h : Fw w g box) {i : Nat} (hi : i < g.xs.length) {y : Bx} (hf : Fr w w' (fun k => k = g.X ∨ (g.xs.getD i bx0).v.ownBlock = some k)) (hb : RB w' g.X 67 (fl (bc box) (g.xs.take i)) (fl (bc box) (g.xs.drop (i + 1)) ++ g.rx) y.v y.st y.ms.length box) (hr : RM.RR w' y.v y.st y.ms) (hn : Nw w (g.xs.getD i bx0).v y.v) (hl : y.ms.length ≤ box) : Fw w' (g.setX i y) box ∧ Gr w g.ow (g.setX i y).ow ∧ Fr w w' g.ow := by
  have hBX : g.B ≠ g.X := block_ne h.cell h.boxes (by decide)
  have hFX : g.F ≠ g.X := block_ne h.feeds h.boxes (by decide)
  have hBo : ∀ j, j < g.xs.length → (g.xs.getD j bx0).v.ownBlock ≠ some g.B := fun j hj => (h.br j hj).1.ne h.cell (by decide)
  have hXo : ∀ j, j < g.xs.length → (g.xs.getD j bx0).v.ownBlock ≠ some g.X := fun j hj => (h.br j hj).1.ne h.boxes (by decide)
  have hFo : ∀ j, j < g.xs.length → (g.xs.getD j bx0).v.ownBlock ≠ some g.F := fun j hj => (h.br j hj).1.ne h.feeds (by decide)
  have hXf : ∀ j, j < g.fs.length → (g.fs.getD j fd0).v.ownBlock ≠ some g.X := fun j hj => (h.fr j hj).1.ne h.boxes (by decide)
  have hlen : (g.xs.set i y).length = g.xs.length := List.length_set
  have hox : ∀ j k, j < g.fs.length → (g.fs.getD j fd0).v.ownBlock = some k → (g.xs.getD i bx0).v.ownBlock ≠ some k := by
    intro j k hj hk e
    rcases (h.br i hi).1 with ⟨h1, _⟩ | ⟨a, R, h1, h2, _⟩
    · rw [h1] at e; simp [Value.ownBlock] at e
    · rw [h1] at e
      simp [Value.ownBlock] at e
      subst e
      exact (h.fr j hj).1.ne h2 (by decide) hk
  refine ⟨⟨?_, h.feeds.fr hf ?_, row_box hi y hb, ?_, ?_, h.fap, ?_, h.nf, ?_, h.bx⟩, ?_, hf.mono ?_⟩
  · show w'.heap[g.B]? = some (.cells #[.slice (some ⟨g.F, 0, none⟩) g.fs.length g.cf, .slice (some ⟨g.X, 0, none⟩) (g.xs.set i y).length g.cx] 60 (0, 0))
    rw [hlen]
    exact keep_block h.cell hf (fun h => h.elim hBX (hBo i hi))
  · exact fun h => h.elim hFX (hFo i hi)
  · intro j hj
    refine ⟨(h.fr j hj).1.fr hf ?_, (h.fr j hj).2.1, ?_, (h.fr j hj).2.2.2⟩
    · rintro k hk (e | e)
      · subst e; exact hXf j hj hk
      · exact hox j k hj hk e
    · show _ < (g.xs.set i y).length
      rw [hlen]; exact (h.fr j hj).2.2.1
  · intro j hj
    replace hj : j < g.xs.length := by rw [← hlen]; exact hj
    show RM.RR w' ((g.xs.set i y).getD j bx0).v ((g.xs.set i y).getD j bx0).st ((g.xs.set i y).getD j bx0).ms ∧ ((g.xs.set i y).getD j bx0).ms.length ≤ box
    rw [getD_set_if hi]
    split
    · exact ⟨hr, hl⟩
    · rename_i hne
      refine ⟨(h.br j hj).1.fr hf ?_, (h.br j hj).2⟩
      rintro k hk (e | e)
      · subst e; exact hXo j hj hk
      · exact hne (h.bap j i k hj hi hk e)
  · intro a b k ha hb' hka hkb
    replace ha : a < g.xs.length := by rw [← hlen]; exact ha
    replace hb' : b < g.xs.length := by rw [← hlen]; exact hb'
    change ((g.xs.set i y).getD a bx0).v.ownBlock = some k at hka
    change ((g.xs.set i y).getD b bx0).v.ownBlock = some k at hkb
    rw [getD_set_if hi] at hka hkb
    have key : ∀ j, j < g.xs.length → j ≠ i → (g.xs.getD j bx0).v.ownBlock = some k → y.v.ownBlock = some k → False := by
      intro j hj hne h1 h2
      rcases hn k h2 with h3 | h3
      · exact hne (h.bap j i k hj hi h1 h3)
      · have := (h.br j hj).1.lt h1; omega
    split at hka <;> split at hkb
    · omega
    · exact (key b hb' (by assumption) hkb hka).elim
    · exact (key a ha (by assumption) hka hkb).elim
    · exact h.bap a b k ha hb' hka hkb
  · show 1 ≤ (g.xs.set i y).length ∧ (g.xs.set i y).length ≤ 8
    rw [hlen]; exact h.nb
  · rintro k (e | e | e | e | ⟨j, hj, hk⟩)
    · exact Or.inl (Or.inl e)
    · exact Or.inl (Or.inr (Or.inl e))
    · exact Or.inl (Or.inr (Or.inr (Or.inl e)))
    · exact Or.inl (Or.inr (Or.inr (Or.inr (Or.inl e))))
    · replace hj : j < g.xs.length := by rw [← hlen]; exact hj
      change ((g.xs.set i y).getD j bx0).v.ownBlock = some k at hk
      rw [getD_set_if hi] at hk
      split at hk
      · rcases hn k hk with h3 | h3
        · exact Or.inl (Or.inr (Or.inr (Or.inr (Or.inr ⟨i, hi, h3⟩))))
        · exact Or.inr h3
      · exact Or.inl (Or.inr (Or.inr (Or.inr (Or.inr ⟨j, hj, hk⟩))))
  · rintro k _ (e | e)
    · exact Or.inr (Or.inr (Or.inl e))
    · exact Or.inr (Or.inr (Or.inr (Or.inr ⟨i, hi, e⟩)))
end Go.Proofs.Ytlgbciibhmcokaa
