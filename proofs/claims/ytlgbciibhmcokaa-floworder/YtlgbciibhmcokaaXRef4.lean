/- The document's flow: Pass: a walk. -/
import Derived.Test.YtlgbciibhmcokaaXRef3
namespace Go.Proofs.Ytlgbciibhmcokaa
open Go.RowKit

/-- A source whose mark was brought to some has that mark first. -/
def Inv (s : Ps) : Prop := ∀ i, s.n.getD i 0 ≠ 0 → ∃ x L, s.q.getD i [] = x :: L ∧ x.m = true
/-- What stands between Pass's steps: the flow, and the block of the item. -/
structure PQ (lo : Nat) (w W : World) (g : RX) (box : Nat) (s : Ps) (M : Nat) (x : It) (g1 : RX) : Prop where
  R : g1.R = g.R
  rf : RF lo W g1 box s
  gr : Gr w g.ow g1.ow
  fr : Fr w W g.ow
  blk : W.heap[M]? = some (.cells (elI x).toArray 33 (0, 0))
  nM : ¬ g1.ow M
theorem PQ.ra {lo : Nat} {w W W' : World} {g : RX} {box : Nat} {s s' : Ps} {M : Nat} {x : It} {g1 : RX} (h : PQ lo w W g box s M x g1) (ha : RA lo W W' g1 box s') : ∃ g2, PQ lo w W' g box s' M x g2 := by
  obtain ⟨g2, h1, h2, h4, h5⟩ := ha
  have hs := h.fr.size
  refine ⟨g2, h1.trans h.R, h2, fun k hk => ?_, h.fr.trans2 h5 (fun k hk e => ?_), keep_block h.blk h5 h.nM, fun hk => ?_⟩
  · rcases h4 k hk with h' | h'
    · exact h.gr k h'
    · exact Or.inr (by omega)
  · rcases h.gr k e with h' | h'
    · exact h'
    · omega
  · rcases h4 M hk with h' | h'
    · exact h.nM h'
    · have := lt_of_block h.blk; omega
theorem PQ.done {lo : Nat} {w W : World} {g : RX} {box : Nat} {s : Ps} {M : Nat} {x : It} {g1 : RX} (h : PQ lo w W g box s M x g1) : RA lo w W g box s := ⟨g1, h.R, h.rf, h.gr, h.fr⟩
end Go.Proofs.Ytlgbciibhmcokaa
