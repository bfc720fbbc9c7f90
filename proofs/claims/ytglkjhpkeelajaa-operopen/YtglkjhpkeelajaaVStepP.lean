/- oper: one step of a law's script, as lists; a row that may be written over. -/
import Derived.Test.YtglkjhpkeelajaaVStp
namespace Go.Proofs.Ytglkjhpkeelajaa.V
open Go.RowKit
open M (Cl cmpC vC)

/-- An operator's marks and live cells. -/
structure Os2 where
  ms : List Int
  L : List Cl
/-- At most 300 cells. -/
def cutK (cs : List Cl) : List Cl := cs.take 300
theorem cutK_len (cs : List Cl) : (cutK cs).length ≤ 300 := by unfold cutK; rw [List.length_take]; omega
/-- What a step leaves; which cells go. -/
def doS (vs : List Vw) (st : Os2) (x : Sf) : Os2 :=
  if x.k = 1 then (if takeE vs x.key x.t = 0 ∧ 0 < x.val then ⟨st.ms, wroteL vs (leastL st.ms) (takeL vs (leastL st.ms) x.key x.t) st.L⟩ else st)
  else if x.k = 2 then ⟨riseS st.ms x.s x.t, leftL vs (leastL (riseS st.ms x.s x.t)) st.L⟩
  else if x.k = 3 then ⟨st.ms, wroteL vs (leastL st.ms) (cutK x.cs) st.L⟩
  else st
def goS (vs : List Vw) (st : Os2) (x : Sf) : List Cl := if x.k = 2 then goneL vs (leastL (riseS st.ms x.s x.t)) st.L else []
theorem wroteL_len (vs : List Vw) (m : Int) (cs L : List Cl) : (wroteL vs m cs L).length ≤ L.length + cs.length := by
  unfold wroteL
  split
  · exact insAll_len cs L
  · omega
theorem doS_len {vs : List Vw} (hok : okVs vs = true) (h4 : vs.length ≤ 4) (st : Os2) (x : Sf) : (doS vs st x).L.length ≤ st.L.length + 300 := by
  unfold doS
  have h1 := wroteL_len vs (leastL st.ms) (takeL vs (leastL st.ms) x.key x.t) st.L
  have h2 := takeL_small (m := leastL st.ms) (t := x.t) (k := x.key) hok h4
  have h3 := wroteL_len vs (leastL st.ms) (cutK x.cs) st.L
  have h4 := cutK_len x.cs
  have h5 : (leftL vs (leastL (riseS st.ms x.s x.t)) st.L).length ≤ st.L.length := List.length_filter_le _ _
  split
  · split
    · show (wroteL _ _ _ _).length ≤ _; omega
    · omega
  · split
    · show (leftL _ _ _).length ≤ _; omega
    · split
      · show (wroteL _ _ _ _).length ≤ _; omega
      · omega
theorem goS_len {vs : List Vw} (st : Os2) (x : Sf) : (goS vs st x).length ≤ st.L.length := by
  unfold goS
  split
  · exact List.length_filter_le _ _
  · simp
end Go.Proofs.Ytglkjhpkeelajaa.V
