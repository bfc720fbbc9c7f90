/- What PaneOwn and PaneAnswers hold: two spines and two books of rows. -/
import Derived.Test.YtfdkinghcalhfabPKept
namespace Go.Proofs.Ytfdkinghcalhfab
open Go.RowKit

/-- The view at the call's first block; spines vK, vW that hold VS, WS; rows VK with ks, VW with xs. -/
structure O1 (w wx : World) (s d l : Int) (vK vW : Value) (VS WS : List Value) (VK : List Value) (ks : List (List Int)) (VW : List Value) (xs : List (List Int)) : Prop where
  vf : VF w s d l wx
  sk : wx.ownsRow (w.heap.size + 1) 27 1 vK VS.length VS
  sw : wx.ownsRow (w.heap.size + 1) 27 1 vW WS.length WS
  sp : ∀ b, vK.ownBlock = some b → vW.ownBlock ≠ some b
  bk : Bk wx (w.heap.size + 1) VK ks VW xs
theorem O1.size {w wx : World} {s d l : Int} {vK vW : Value} {VS WS VK VW : List Value} {ks xs : List (List Int)} (h : O1 w wx s d l vK vW VS WS VK ks VW xs) : w.heap.size < wx.heap.size := h.vf.vw.lt
theorem O1.step {w wx wy : World} {s d l : Int} {vK vW : Value} {VS WS VK VW : List Value} {ks xs : List (List Int)} (h : O1 w wx s d l vK vW VS WS VK ks VW xs) (hf : Fr wx wy (fun _ => False)) : O1 w wy s d l vK vW VS WS VK ks VW xs :=
  ⟨h.vf.step hf, own_fr h.sk hf (fun _ _ h => h), own_fr h.sw hf (fun _ _ h => h), h.sp, h.bk.step hf⟩
theorem O1.keep {w wx wy : World} {s d l : Int} {vK vW : Value} {VS WS VK VW : List Value} {ks xs : List (List Int)} (h : O1 w wx s d l vK vW VS WS VK ks VW xs) (hf : Fr wx wy (fun _ => False)) {v : Value} {x : List Int} (ho : wy.ownsRow wx.heap.size 2 1 v x.length (iv x)) : O1 w wy s d l vK vW VS WS (VK ++ [v]) (ks ++ [x]) VW xs :=
  ⟨(h.step hf).vf, (h.step hf).sk, (h.step hf).sw, h.sp, h.bk.keep hf (own_mono ho h.size) (fun b hb => (ho.lt b hb).1)⟩
theorem O1.want {w wx wy : World} {s d l : Int} {vK vW : Value} {VS WS VK VW : List Value} {ks xs : List (List Int)} (h : O1 w wx s d l vK vW VS WS VK ks VW xs) (hf : Fr wx wy (fun _ => False)) {v : Value} {x : List Int} (ho : wy.ownsRow wx.heap.size 2 1 v x.length (iv x)) : O1 w wy s d l vK vW VS WS VK ks (VW ++ [v]) (xs ++ [x]) :=
  ⟨(h.step hf).vf, (h.step hf).sk, (h.step hf).sw, h.sp, h.bk.want hf (own_mono ho h.size) (fun b hb => (ho.lt b hb).1)⟩
/-- The spine vK is grown. -/
theorem O1.growK {w wx wy : World} {s d l : Int} {vK vW vK' : Value} {VS WS VK VW : List Value} {ks xs : List (List Int)} {news : List Value} (h : O1 w wx s d l vK vW VS WS VK ks VW xs) (o : Obj)
    (hown : wy.ownsRow (w.heap.size + 1) 27 1 vK' (VS.length + news.length) (VS ++ news)) (hg : (wx.alloc o).grownBy wy vK.ownBlock) (hat : vK'.ownBlock = vK.ownBlock ∨ vK'.ownBlock = some (wx.alloc o).heap.size) : O1 w wy s d l vK' vW (VS ++ news) WS VK ks VW xs := by
  have hb : ∀ k, vK.ownBlock = some k → w.heap.size + 1 ≤ k := fun k hk => (h.sk.lt k hk).1
  have hf : Fr wx wy (fun k => vK.ownBlock = some k) := (alloc_fr wx o _).grown hg (fun k _ e => e)
  refine ⟨⟨h.vf.vw.fr hf (fun e => by have := hb _ e; omega), h.vf.fr.trans2 hf (fun i hi e => by have := hb i e; omega)⟩, by rw [List.length_append]; exact hown, own_fr h.sw hf (fun k hk e => h.sp k e hk), fun b hb' e => ?_, h.bk.fr hf (fun i hi k hk e => spine_ne h.sk (h.bk.k.own i hi) k e hk) (fun i hi k hk e => spine_ne h.sk (h.bk.u.own i hi) k e hk)⟩
  rcases hat with h1 | h1
  · rw [h1] at hb'
    exact h.sp b hb' e
  · rw [h1] at hb'
    cases hb'
    have := (h.sw.lt _ e).2
    simp at this
    omega
theorem O1.growW {w wx wy : World} {s d l : Int} {vK vW vW' : Value} {VS WS VK VW : List Value} {ks xs : List (List Int)} {news : List Value} (h : O1 w wx s d l vK vW VS WS VK ks VW xs) (o : Obj)
    (hown : wy.ownsRow (w.heap.size + 1) 27 1 vW' (WS.length + news.length) (WS ++ news)) (hg : (wx.alloc o).grownBy wy vW.ownBlock) (hat : vW'.ownBlock = vW.ownBlock ∨ vW'.ownBlock = some (wx.alloc o).heap.size) : O1 w wy s d l vK vW' VS (WS ++ news) VK ks VW xs := by
  have hb : ∀ k, vW.ownBlock = some k → w.heap.size + 1 ≤ k := fun k hk => (h.sw.lt k hk).1
  have hf : Fr wx wy (fun k => vW.ownBlock = some k) := (alloc_fr wx o _).grown hg (fun k _ e => e)
  refine ⟨⟨h.vf.vw.fr hf (fun e => by have := hb _ e; omega), h.vf.fr.trans2 hf (fun i hi e => by have := hb i e; omega)⟩, own_fr h.sk hf (fun k hk e => h.sp k hk e), by rw [List.length_append]; exact hown, fun b hb' e => ?_, h.bk.fr hf (fun i hi k hk e => spine_ne h.sw (h.bk.k.own i hi) k e hk) (fun i hi k hk e => spine_ne h.sw (h.bk.u.own i hi) k e hk)⟩
  rcases hat with h1 | h1
  · rw [h1] at e
    exact h.sp b hb' e
  · rw [h1] at e
    cases e
    have := (h.sk.lt _ hb').2
    simp at this
    omega
/-- A spine's cell. -/
theorem spine_cell {wx : World} {base : Nat} {v : Value} {VS : List Value} (h : wx.ownsRow base 27 1 v VS.length VS) {i : Nat} (hi : i < VS.length) : ∃ g cap, v = .slice (some ⟨g, 0, none⟩) VS.length cap ∧ wx.cell? ⟨g, i, none⟩ = some (VS.getD i nilV) := by
  rcases h.2 with ⟨_, h0⟩ | ⟨g, cap, cur, rfl, _⟩
  · omega
  · refine ⟨g, cap, rfl, ?_⟩
    have := h.cells (g := g) rfl i (VS.getD i nilV) (by simp [List.getD, hi])
    rwa [Addr.add_lit, Nat.zero_add] at this
theorem three_new (w : World) (x y z : Value) (e : TypeId) : ∀ (j : Nat) (u : Value), [x, y, z][j]? = some u → (w.alloc (.cells #[x, y, z] e)).cell? ((⟨w.heap.size, 0, none⟩ : Addr).add j) = some u := by
  intro j u hj
  have h := heap_last w (.cells #[x, y, z] e) _ rfl
  rw [Addr.add_lit, cell_of_row _ _ _ _ _ _ h, Nat.zero_add]
  match j, hj with
  | 0, hj => exact hj
  | 1, hj => exact hj
  | 2, hj => exact hj
/-- What Starts and Open answer, owned. -/
theorem starts_own {w w' : World} {b : Nat} {xs : List Int} (hb : w.heap.size < b) (hr : RowV w' b (iv xs)) (hl : xs.length ≤ 64) : w'.ownsRow w.heap.size 2 1 (.slice (some ⟨b, 0, none⟩) xs.length xs.length) xs.length (iv xs) := by
  have h := rowV_own (w := w') (base := w.heap.size) (k := xs.length) (vs := iv xs) (rest := []) (by rw [List.append_nil]; exact hr) (by omega) (iv_length _) (by simp; omega)
  simpa using h
theorem open_own {w w' : World} {v : Value} {xs : List Int} {n : Nat} (h : OpenRow w w' v xs n) (hn : n ≤ 64) : w'.ownsRow w.heap.size 2 1 v xs.length (iv xs) ∧ ∃ a m c, v = .slice (some a) m c := by
  obtain ⟨b, rest, rfl, hb, hr, hl⟩ := h.row
  have h := rowV_own (w := w') (base := w.heap.size) (k := xs.length) hr (by omega) (iv_length _) (by omega)
  rw [show xs.length + rest.length = n by omega] at h
  exact ⟨h, _, _, _, rfl⟩
end Go.Proofs.Ytfdkinghcalhfab
