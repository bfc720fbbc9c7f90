/- What WireOwn holds while it goes on: two Frames, the bodies that were told, what they should be. -/
import Derived.Test.YtdhobmnljniccabKept
import Derived.Test.YtdhobmnljniccabLists
import Derived.Test.YtdhobmnljniccabWmore
namespace Go.Proofs.Ytdhobmnljniccab
open Go.RowKit

structure O1 (w : World) (G : Nat) (vx vy : Value) (fed : List Nat) (told : Nat) (fy : List Nat) (kv wv : Value) (Vs Us : List Value) (ks rs : List (List Nat)) (wx : World) : Prop where
  fx : Fz wx w.heap.size w.heap.size vx 65536 fed told 0
  fz : Fz wx w.heap.size G vy 65536 fy 0 0
  kown : wx.ownsRow w.heap.size 24 1 kv ks.length Vs
  wown : wx.ownsRow w.heap.size 24 1 wv ks.length Us
  kw : ∀ k, kv.ownBlock = some k → wv.ownBlock ≠ some k
  xy : ∀ k, vx.ownBlock = some k → vy.ownBlock ≠ some k
  rlen : rs.length = ks.length
  kp : Kp 5 wx w.heap.size Vs rs
  kx : ∀ i, i < ks.length → ∀ k, (Vs.getD i (.slice none 0 0)).ownBlock = some k → vx.ownBlock ≠ some k ∧ vy.ownBlock ≠ some k
  ulen : Us.length = ks.length
  us : ∀ i, i < ks.length → Bs wx (Us.getD i (.slice none 0 0)) (ks.getD i []) ∧ ∀ k, (Us.getD i (.slice none 0 0)).ownBlock = some k → k < w.heap.size
  good : ∀ i, i < ks.length → 1 ≤ (ks.getD i []).length ∧ (ks.getD i []).length ≤ 65536
  same : ∀ i, i < ks.length → (rs.getD i []).length = (ks.getD i []).length
  GN : G ≠ w.heap.size
  below : Below w.heap.size w wx

theorem O1.fr {w : World} {G : Nat} {vx vy : Value} {fed : List Nat} {told : Nat} {fy : List Nat} {kv wv : Value} {Vs Us : List Value} {ks rs : List (List Nat)} {wx w' : World} {S : Nat → Prop} (h : O1 w G vx vy fed told fy kv wv Vs Us ks rs wx) (hf : Fr wx w' S)
    (hS : ∀ k, S k → w.heap.size ≤ k ∧ k ≠ w.heap.size ∧ k ≠ G ∧ vx.ownBlock ≠ some k ∧ vy.ownBlock ≠ some k ∧ kv.ownBlock ≠ some k ∧ wv.ownBlock ≠ some k ∧ ∀ i, i < ks.length → (Vs.getD i (.slice none 0 0)).ownBlock ≠ some k) :
    O1 w G vx vy fed told fy kv wv Vs Us ks rs w' :=
  ⟨h.fx.fr hf (fun s => (hS _ s).2.1 rfl) (fun k hk s => (hS k s).2.2.2.1 hk), h.fz.fr hf (fun s => (hS _ s).2.2.1 rfl) (fun k hk s => (hS k s).2.2.2.2.1 hk), own_fr h.kown hf (fun k hk s => (hS k s).2.2.2.2.2.1 hk), own_fr h.wown hf (fun k hk s => (hS k s).2.2.2.2.2.2.1 hk),
    h.kw, h.xy, h.rlen, h.kp.fr hf (fun i hi k hk s => (hS k s).2.2.2.2.2.2.2 i (by rw [← h.rlen]; exact hi) hk), h.kx, h.ulen, fun i hi => ⟨(h.us i hi).1.fr hf (fun k hk s => by have := (h.us i hi).2 k hk; have := (hS k s).1; omega), (h.us i hi).2⟩, h.good, h.same, h.GN,
    h.below.trans (hf.below h.below.size (fun k s => (hS k s).1))⟩
theorem O1.still {w : World} {G : Nat} {vx vy : Value} {fed : List Nat} {told : Nat} {fy : List Nat} {kv wv : Value} {Vs Us : List Value} {ks rs : List (List Nat)} {wx w' : World} (h : O1 w G vx vy fed told fy kv wv Vs Us ks rs wx) (hf : Fr wx w' (fun _ => False)) : O1 w G vx vy fed told fy kv wv Vs Us ks rs w' := h.fr hf (fun _ s => s.elim)
theorem O1.drewN {w : World} {G : Nat} {vx vy : Value} {fed : List Nat} {told : Nat} {fy : List Nat} {kv wv : Value} {Vs Us : List Value} {ks rs : List (List Nat)} {wx : World} (h : O1 w G vx vy fed told fy kv wv Vs Us ks rs wx) (n : Nat) : O1 w G vx vy fed told fy kv wv Vs Us ks rs (wx.drewN n) := h.still ((Fr.refl _ _).drewN n)
theorem O1.new {w : World} {G : Nat} {vx vy : Value} {fed : List Nat} {told : Nat} {fy : List Nat} {kv wv : Value} {Vs Us : List Value} {ks rs : List (List Nat)} {wx : World} (h : O1 w G vx vy fed told fy kv wv Vs Us ks rs wx) {k : Nat} (hk : wx.heap.size ≤ k) :
    w.heap.size ≤ k ∧ k ≠ w.heap.size ∧ k ≠ G ∧ vx.ownBlock ≠ some k ∧ vy.ownBlock ≠ some k ∧ kv.ownBlock ≠ some k ∧ wv.ownBlock ≠ some k ∧ ∀ i, i < ks.length → (Vs.getD i (.slice none 0 0)).ownBlock ≠ some k := by
  have h1 := lt_of_block h.fx.cell
  have h2 := lt_of_block h.fz.cell
  refine ⟨by omega, by omega, by omega, fun e => ?_, fun e => ?_, fun e => ?_, fun e => ?_, fun i hi e => ?_⟩
  · have := (h.fx.own.lt k e).2; omega
  · have := (h.fz.own.lt k e).2; omega
  · have := (h.kown.lt k e).2; omega
  · have := (h.wown.lt k e).2; omega
  · have := (h.kp.lt (by rw [h.rlen]; exact hi) e).2; omega
theorem O1.x {w : World} {G : Nat} {vx vy vx' : Value} {fed fed' : List Nat} {told told' : Nat} {fy : List Nat} {kv wv : Value} {Vs Us : List Value} {ks rs : List (List Nat)} {wx w' : World} (h : O1 w G vx vy fed told fy kv wv Vs Us ks rs wx) (hz : Fz w' w.heap.size w.heap.size vx' 65536 fed' told' 0) (hf : Fr wx w' (fun k => k = w.heap.size ∨ vx.ownBlock = some k)) (hn : Nw wx vx vx') :
    O1 w G vx' vy fed' told' fy kv wv Vs Us ks rs w' := by
  have hS : ∀ k, (k = w.heap.size ∨ vx.ownBlock = some k) → w.heap.size ≤ k := fun k s => by
    rcases s with s | s
    · omega
    · exact (h.fx.own.lt k s).1
  refine ⟨hz, h.fz.fr hf (fun s => ?_) (fun k hk s => ?_), own_fr h.kown hf (fun k hk s => ?_), own_fr h.wown hf (fun k hk s => ?_), h.kw, fun k hk e => ?_, h.rlen, h.kp.fr hf (fun i hi k hk s => ?_), fun i hi k hk => ⟨fun e => ?_, (h.kx i hi k hk).2⟩, h.ulen,
    fun i hi => ⟨(h.us i hi).1.fr hf (fun k hk s => by have := (h.us i hi).2 k hk; have := hS k s; omega), (h.us i hi).2⟩, h.good, h.same, h.GN, h.below.trans (hf.below h.below.size hS)⟩
  · rcases s with s | s
    · exact h.GN s
    · exact own_ne h.fx.own h.fz.cell (by decide) s
  · rcases s with s | s
    · exact own_ne h.fz.own h.fx.cell (by decide) (by rw [← s]; exact hk)
    · exact h.xy k s hk
  · rcases s with s | s
    · exact own_ne h.kown h.fx.cell (by decide) (by rw [← s]; exact hk)
    · exact own_apart h.kown h.fx.own (by decide) hk s
  · rcases s with s | s
    · exact own_ne h.wown h.fx.cell (by decide) (by rw [← s]; exact hk)
    · exact own_apart h.wown h.fx.own (by decide) hk s
  · rcases hn k hk with s | s
    · exact h.xy k s e
    · have := (h.fz.own.lt k e).2; omega
  · rcases s with s | s
    · exact own_ne (h.kp.own i hi) h.fx.cell (by decide) (by rw [← s]; exact hk)
    · exact (h.kx i (by rw [← h.rlen]; exact hi) k hk).1 s
  · rcases hn k e with s | s
    · exact (h.kx i hi k hk).1 s
    · have := (h.kp.lt (by rw [h.rlen]; exact hi) hk).2; omega
theorem O1.y {w : World} {G : Nat} {vx vy vy' : Value} {fed : List Nat} {told : Nat} {fy fy' : List Nat} {kv wv : Value} {Vs Us : List Value} {ks rs : List (List Nat)} {wx w' : World} (h : O1 w G vx vy fed told fy kv wv Vs Us ks rs wx) (hz : Fz w' w.heap.size G vy' 65536 fy' 0 0) (hf : Fr wx w' (fun k => k = G ∨ vy.ownBlock = some k)) (hn : Nw wx vy vy') :
    O1 w G vx vy' fed told fy' kv wv Vs Us ks rs w' := by
  have hS : ∀ k, (k = G ∨ vy.ownBlock = some k) → w.heap.size ≤ k := fun k s => by
    rcases s with s | s
    · rw [s]; exact h.fz.base
    · exact (h.fz.own.lt k s).1
  refine ⟨h.fx.fr hf (fun s => ?_) (fun k hk s => ?_), hz, own_fr h.kown hf (fun k hk s => ?_), own_fr h.wown hf (fun k hk s => ?_), h.kw, fun k hk e => ?_, h.rlen, h.kp.fr hf (fun i hi k hk s => ?_), fun i hi k hk => ⟨(h.kx i hi k hk).1, fun e => ?_⟩, h.ulen,
    fun i hi => ⟨(h.us i hi).1.fr hf (fun k hk s => by have := (h.us i hi).2 k hk; have := hS k s; omega), (h.us i hi).2⟩, h.good, h.same, h.GN, h.below.trans (hf.below h.below.size hS)⟩
  · rcases s with s | s
    · exact h.GN s.symm
    · exact own_ne h.fz.own h.fx.cell (by decide) s
  · rcases s with s | s
    · exact own_ne h.fx.own h.fz.cell (by decide) (by rw [← s]; exact hk)
    · exact h.xy k hk s
  · rcases s with s | s
    · exact own_ne h.kown h.fz.cell (by decide) (by rw [← s]; exact hk)
    · exact own_apart h.kown h.fz.own (by decide) hk s
  · rcases s with s | s
    · exact own_ne h.wown h.fz.cell (by decide) (by rw [← s]; exact hk)
    · exact own_apart h.wown h.fz.own (by decide) hk s
  · rcases hn k e with s | s
    · exact h.xy k hk s
    · have := (h.fx.own.lt k hk).2; omega
  · rcases s with s | s
    · exact own_ne (h.kp.own i hi) h.fz.cell (by decide) (by rw [← s]; exact hk)
    · exact (h.kx i (by rw [← h.rlen]; exact hi) k hk).2 s
  · rcases hn k e with s | s
    · exact (h.kx i hi k hk).2 s
    · have := (h.kp.lt (by rw [h.rlen]; exact hi) hk).2; omega

/-- One body more is kept. -/
theorem O1.keep {w : World} {G : Nat} {vx vy bv ux kv' wv' : Value} {fed : List Nat} {told : Nat} {fy : List Nat} {kv wv : Value} {Vs Us : List Value} {ks : List (List Nat)} {wx w1 w2 : World} {x : List Nat} (h : O1 w G vx vy fed told fy kv wv Vs Us ks ks wx)
    (hb : wx.ownsRow w.heap.size 5 1 bv x.length (by8 x)) (hbx : ∀ k, bv.ownBlock = some k → vx.ownBlock ≠ some k ∧ vy.ownBlock ≠ some k ∧ ∀ i, i < ks.length → (Vs.getD i (.slice none 0 0)).ownBlock ≠ some k)
    (ho1 : w1.ownsRow w.heap.size 24 1 kv' (ks.length + 1) (Vs ++ [bv])) (hf1 : Fr wx w1 (fun k => kv.ownBlock = some k)) (hn1 : Nw wx kv kv')
    (ho2 : w2.ownsRow w.heap.size 24 1 wv' (ks.length + 1) (Us ++ [ux])) (hf2 : Fr w1 w2 (fun k => wv.ownBlock = some k)) (hn2 : Nw w1 wv wv') (hu : Bs w ux x) (hx : 1 ≤ x.length ∧ x.length ≤ 65536) :
    O1 w G vx vy fed told fy kv' wv' (Vs ++ [bv]) (Us ++ [ux]) (ks ++ [x]) (ks ++ [x]) w2 := by
  have hs1 := hf1.size
  have hf : Fr wx w2 (fun k => kv.ownBlock = some k ∨ wv.ownBlock = some k) := (hf1.mono (fun _ _ s => Or.inl s)).trans (hf2.mono (fun _ _ s => Or.inr s))
  have hS : ∀ k, (kv.ownBlock = some k ∨ wv.ownBlock = some k) → w.heap.size ≤ k := fun k s => by
    rcases s with s | s
    · exact (h.kown.lt k s).1
    · exact (h.wown.lt k s).1
  have hbl : Below w.heap.size w w2 := h.below.trans (hf.below h.below.size hS)
  have hvl := h.kp.vlen
  have hul := h.ulen
  have hu8 : ∀ {v : Value} {n : Nat} {ys : List Value}, wx.ownsRow w.heap.size 5 1 v n ys → ∀ k, v.ownBlock = some k → ¬ (kv.ownBlock = some k ∨ wv.ownBlock = some k) := fun ho k hk s => by
    rcases s with s | s
    · exact own_apart ho h.kown (by decide) hk s
    · exact own_apart ho h.wown (by decide) hk s
  have hfxne : ∀ {F : Nat} {cs : Array Value} {z : Nat × Nat}, wx.heap[F]? = some (.cells cs 84 z) → ¬ (kv.ownBlock = some F ∨ wv.ownBlock = some F) := fun hc s => by
    rcases s with s | s
    · exact own_ne h.kown hc (by decide) s
    · exact own_ne h.wown hc (by decide) s
  have hk2 : ∀ k, kv'.ownBlock = some k → wv.ownBlock ≠ some k := fun k hk e => by
    rcases hn1 k hk with s | s
    · exact h.kw k s e
    · have := (h.wown.lt k e).2; omega
  refine ⟨h.fx.fr hf (hfxne h.fx.cell) (hu8 h.fx.own), h.fz.fr hf (hfxne h.fz.cell) (hu8 h.fz.own), ?_, ?_, fun k hk e => ?_, h.xy, rfl, ?_, fun i hi k hk => ?_, by simp [hul], fun i hi => ?_, fun i hi => ?_, fun i hi => rfl, h.GN, hbl⟩
  · rw [List.length_append, List.length_singleton]
    exact own_fr ho1 hf2 (fun k hk s => hk2 k hk s)
  · rw [List.length_append, List.length_singleton]
    exact ho2
  · rcases hn2 k e with s | s
    · exact hk2 k hk s
    · have := (ho1.lt k hk).2; omega
  · refine (h.kp.fr hf (fun i hi k hk s => hu8 (h.kp.own i hi) k hk s)).snoc (own_fr hb hf (hu8 hb)) (fun i hi k hk e => (hbx k e).2.2 i hi hk)
  · rw [List.length_append, List.length_singleton] at hi
    rw [getD_snoc, hvl] at hk
    by_cases h1 : i < ks.length
    · rw [if_pos h1] at hk
      exact h.kx i h1 k hk
    · rw [if_neg h1, if_pos (show i = ks.length by omega)] at hk
      exact ⟨(hbx k hk).1, (hbx k hk).2.1⟩
  · rw [List.length_append, List.length_singleton] at hi
    rw [getD_snoc, getD_snoc, hul]
    by_cases h1 : i < ks.length
    · rw [if_pos h1, if_pos h1]
      exact ⟨(h.us i h1).1.fr hf (fun k hk s => by have := (h.us i h1).2 k hk; have := hS k s; omega), (h.us i h1).2⟩
    · rw [if_neg h1, if_neg h1, if_pos (show i = ks.length by omega), if_pos (show i = ks.length by omega)]
      exact ⟨hu.fr (Fr.ofBelow (S := fun _ => False) hbl) (fun _ _ h => h), fun k hk => hu.lt hk (by intro e; subst e; simp at hx)⟩
  · rw [List.length_append, List.length_singleton] at hi
    rw [getD_snoc]
    by_cases h1 : i < ks.length
    · rw [if_pos h1]
      exact h.good i h1
    · rw [if_neg h1, if_pos (show i = ks.length by omega)]
      exact hx

/-- A kept body is written over. -/
theorem O1.turn {w : World} {G : Nat} {vx vy : Value} {fed : List Nat} {told : Nat} {fy : List Nat} {kv wv : Value} {Vs Us : List Value} {ks rs : List (List Nat)} {wx w' : World} {x : List Nat} {i : Nat} (h : O1 w G vx vy fed told fy kv wv Vs Us ks rs wx) (hi : i < ks.length) (hf : Fr wx w' (fun k => (Vs.getD i (.slice none 0 0)).ownBlock = some k))
    (ho : w'.ownsRow w.heap.size 5 1 (Vs.getD i (.slice none 0 0)) x.length (by8 x)) (hx : x.length = (ks.getD i []).length) : O1 w G vx vy fed told fy kv wv Vs Us ks (rs.set i x) w' := by
  have hir : i < rs.length := by rw [h.rlen]; exact hi
  have hoi := h.kp.own i hir
  have hS : ∀ k, (Vs.getD i (.slice none 0 0)).ownBlock = some k → w.heap.size ≤ k := fun k s => (hoi.lt k s).1
  refine ⟨h.fx.fr hf (own_ne hoi h.fx.cell (by decide)) (fun k hk s => (h.kx i hi k s).1 hk), h.fz.fr hf (own_ne hoi h.fz.cell (by decide)) (fun k hk s => (h.kx i hi k s).2 hk), own_fr h.kown hf (fun k hk s => own_apart h.kown hoi (by decide) hk s), own_fr h.wown hf (fun k hk s => own_apart h.wown hoi (by decide) hk s),
    h.kw, h.xy, by rw [List.length_set]; exact h.rlen, h.kp.turn hir hf ho, h.kx, h.ulen, fun j hj => ⟨(h.us j hj).1.fr hf (fun k hk s => by have := (h.us j hj).2 k hk; have := hS k s; omega), (h.us j hj).2⟩, h.good, fun j hj => ?_, h.GN, h.below.trans (hf.below h.below.size hS)⟩
  rw [getD_set _ _ _ _ _ hir]
  by_cases hji : j = i
  · rw [if_pos hji, hx, hji]
  · rw [if_neg hji]
    exact h.same j hj

/-- The first p of the kept bodies are written full of their own number. -/
def Full (ks rs : List (List Nat)) (p : Nat) : Prop := ∀ j, j < ks.length → rs.getD j [] = if j < p then List.replicate (ks.getD j []).length j else ks.getD j []
theorem Full.start (ks : List (List Nat)) : Full ks ks 0 := fun j _ => by simp
theorem Full.at {ks rs : List (List Nat)} {p : Nat} (h : Full ks rs p) (hp : p < ks.length) : rs.getD p [] = ks.getD p [] := by rw [h p hp, if_neg (by omega)]
theorem Full.step {ks rs : List (List Nat)} {p : Nat} (h : Full ks rs p) (hl : rs.length = ks.length) (hp : p < ks.length) : Full ks (rs.set p (List.replicate (ks.getD p []).length p)) (p + 1) := by
  intro j hj
  rw [getD_set _ _ _ _ _ (by omega)]
  by_cases h1 : j = p
  · rw [if_pos h1, if_pos (show j < p + 1 by omega), h1]
  · rw [if_neg h1, h j hj]
    by_cases h2 : j < p
    · rw [if_pos h2, if_pos (by omega)]
    · rw [if_neg h2, if_neg (by omega)]
theorem full_row {ys : List Nat} {n p : Nat} (hl : ys.length = n) (h : ∀ j, j < n → ys.getD j 0 = p) : ys = List.replicate n p := by
  apply List.ext_getElem
  · simp [hl]
  · intro j h1 h2
    have := h j (by omega)
    simp only [List.getD, List.getElem?_eq_getElem h1, Option.getD_some] at this
    simp [this]
/-- A cell of a row of slices. -/
theorem own_elem {w : World} {base : Nat} {e : TypeId} {g n cap : Nat} {Vs : List Value} (h : w.ownsRow base e 1 (.slice (some ⟨g, 0, none⟩) n cap) n Vs) (j : Nat) (hj : j < n) : w.cell? ⟨g, j, none⟩ = some (Vs.getD j (.slice none 0 0)) := by
  have hl : Vs.length = n := by simpa using h.1
  have := h.cells (g := g) rfl j (Vs.getD j (.slice none 0 0)) (by simp [List.getD, List.getElem?_eq_getElem (show j < Vs.length by omega)])
  rwa [Addr.add_lit, Nat.zero_add] at this
/-- Behind an append, its first byte is written: the elder slice still owns so many bytes. -/
theorem own_zero {w w' : World} {base : Nat} {e : TypeId} {v : Value} {xs : List Nat} {g c : Nat} (h : w.ownsRow base e 1 v xs.length (by8 xs)) (hw : w' = w.setCell ⟨g, 0, none⟩ (.int .u8 (c : Int))) : ∃ ys : List Nat, ys.length = xs.length ∧ w'.ownsRow base e 1 v ys.length (by8 ys) := by
  subst hw
  by_cases hg : v.ownBlock = some g
  · exact ⟨xs.set 0 c, by simp, own_set h hg 0 c⟩
  · exact ⟨xs, rfl, ownsRow_setCell_other h hg _⟩

/-- Behind the loops: the Frames, and two Writers. -/
structure O3 (w : World) (B1 B2 : Nat) (vx : Value) (fed : List Nat) (told : Nat) (v1 v2 : Value) (a b : List Nat) (wx : World) : Prop where
  fx : Fz wx w.heap.size w.heap.size vx 65536 fed told 0
  w1 : Wr 26 5 wx w.heap.size B1 v1 a
  w2 : Wr 26 5 wx w.heap.size B2 v2 b
  b12 : B1 ≠ B2
  n1 : w.heap.size < B1
  n2 : w.heap.size < B2
  x1 : ∀ k, v1.ownBlock = some k → vx.ownBlock ≠ some k ∧ v2.ownBlock ≠ some k
  x2 : ∀ k, v2.ownBlock = some k → vx.ownBlock ≠ some k
  below : Below w.heap.size w wx

theorem O3.one {w : World} {B1 B2 : Nat} {vx : Value} {fed : List Nat} {told : Nat} {v1 v2 v1' : Value} {a b a' : List Nat} {wx w' : World} (h : O3 w B1 B2 vx fed told v1 v2 a b wx) (hw : Wr 26 5 w' w.heap.size B1 v1' a') (hf : Fr wx w' (fun k => k = B1 ∨ v1.ownBlock = some k)) (hn : Nw wx v1 v1') :
    O3 w B1 B2 vx fed told v1' v2 a' b w' := by
  have h1 := h.n1
  refine ⟨h.fx.fr hf (fun s => ?_) (fun k hk s => ?_), hw, h.w2.fr hf (fun s => ?_) (fun k hk s => ?_), h.b12, h.n1, h.n2, fun k hk => ⟨fun e => ?_, fun e => ?_⟩, h.x2, h.below.trans (hf.below h.below.size (fun k s => ?_))⟩
  · rcases s with s | s
    · omega
    · exact own_ne h.w1.own h.fx.cell (by decide) s
  · rcases s with s | s
    · exact own_ne h.fx.own h.w1.cell (by decide) (by rw [← s]; exact hk)
    · exact (h.x1 k s).1 hk
  · rcases s with s | s
    · exact h.b12 s.symm
    · exact own_ne h.w1.own h.w2.cell (by decide) s
  · rcases s with s | s
    · exact own_ne h.w2.own h.w1.cell (by decide) (by rw [← s]; exact hk)
    · exact (h.x1 k s).2 hk
  · rcases hn k hk with s | s
    · exact (h.x1 k s).1 e
    · have := (h.fx.own.lt k e).2; omega
  · rcases hn k hk with s | s
    · exact (h.x1 k s).2 e
    · have := (h.w2.own.lt k e).2; omega
  · rcases s with s | s
    · omega
    · exact (h.w1.own.lt k s).1
theorem O3.two {w : World} {B1 B2 : Nat} {vx : Value} {fed : List Nat} {told : Nat} {v1 v2 v2' : Value} {a b b' : List Nat} {wx w' : World} (h : O3 w B1 B2 vx fed told v1 v2 a b wx) (hw : Wr 26 5 w' w.heap.size B2 v2' b') (hf : Fr wx w' (fun k => k = B2 ∨ v2.ownBlock = some k)) (hn : Nw wx v2 v2') :
    O3 w B1 B2 vx fed told v1 v2' a b' w' := by
  have h2 := h.n2
  refine ⟨h.fx.fr hf (fun s => ?_) (fun k hk s => ?_), h.w1.fr hf (fun s => ?_) (fun k hk s => ?_), hw, h.b12, h.n1, h.n2, fun k hk => ⟨(h.x1 k hk).1, fun e => ?_⟩, fun k hk e => ?_, h.below.trans (hf.below h.below.size (fun k s => ?_))⟩
  · rcases s with s | s
    · omega
    · exact own_ne h.w2.own h.fx.cell (by decide) s
  · rcases s with s | s
    · exact own_ne h.fx.own h.w2.cell (by decide) (by rw [← s]; exact hk)
    · exact h.x2 k s hk
  · rcases s with s | s
    · exact h.b12 s
    · exact own_ne h.w2.own h.w1.cell (by decide) s
  · rcases s with s | s
    · exact own_ne h.w1.own h.w2.cell (by decide) (by rw [← s]; exact hk)
    · exact (h.x1 k hk).2 s
  · rcases hn k e with s | s
    · exact (h.x1 k hk).2 s
    · have := (h.w1.own.lt k hk).2; omega
  · rcases hn k hk with s | s
    · exact h.x2 k s e
    · have := (h.fx.own.lt k e).2; omega
  · rcases s with s | s
    · omega
    · exact (h.w2.own.lt k s).1
theorem O3.still {w : World} {B1 B2 : Nat} {vx : Value} {fed : List Nat} {told : Nat} {v1 v2 : Value} {a b : List Nat} {wx w' : World} (h : O3 w B1 B2 vx fed told v1 v2 a b wx) (hf : Fr wx w' (fun _ => False)) : O3 w B1 B2 vx fed told v1 v2 a b w' :=
  ⟨h.fx.fr hf (fun h => h) (fun _ _ h => h), h.w1.fr hf (fun h => h) (fun _ _ h => h), h.w2.fr hf (fun h => h) (fun _ _ h => h), h.b12, h.n1, h.n2, h.x1, h.x2, h.below.trans (hf.below h.below.size (fun _ h => h.elim))⟩
theorem O3.start {w : World} {G : Nat} {vx vy : Value} {fed : List Nat} {told : Nat} {fy : List Nat} {kv wv : Value} {Vs Us : List Value} {ks rs : List (List Nat)} {wx : World} (h : O1 w G vx vy fed told fy kv wv Vs Us ks rs wx) :
    O3 w wx.heap.size (wx.heap.size + 1) vx fed told (.slice none 0 0) (.slice none 0 0) [] [] ((wx.alloc (.cells #[.slice none 0 0] 26)).alloc (.cells #[.slice none 0 0] 26)) := by
  have h1 := lt_of_block h.fx.cell
  have hf1 := alloc_fr wx (.cells #[.slice none 0 0] 26) (fun _ => False)
  have hf2 := alloc_fr (wx.alloc (.cells #[.slice none 0 0] 26)) (.cells #[.slice none 0 0] 26) (fun _ => False)
  have hs : (wx.alloc (.cells #[.slice none 0 0] 26)).heap.size = wx.heap.size + 1 := by simp
  have hw2 := heap_alloc_new (wx.alloc (.cells #[.slice none 0 0] 26)) (.cells #[.slice none 0 0] 26)
  rw [hs] at hw2
  refine ⟨h.fx.fr (hf1.trans hf2) (fun h => h) (fun _ _ h => h), ⟨?_, World.ownsRow_nil _ _ _ _⟩, ⟨hw2, World.ownsRow_nil _ _ _ _⟩, by omega, h1, by omega, fun k hk => by simp [Value.ownBlock] at hk, fun k hk => by simp [Value.ownBlock] at hk, h.below.trans ((hf1.trans hf2).below h.below.size (fun _ h => h.elim))⟩
  rw [hf2.block wx.heap.size (by rw [hs]; omega) (fun h => h)]
  exact heap_alloc_new wx _
theorem numB_small (n : Nat) (h : n < 128) : (numB (n : Int)).length = 1 := by
  rw [numB, sev_last 9 _ (by simpa using h)]
  rfl
end Go.Proofs.Ytdhobmnljniccab
