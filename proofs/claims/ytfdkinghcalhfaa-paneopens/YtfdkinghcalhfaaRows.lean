/-
  No cell of these rows narrows 'for every input' (looked for: loops, veiled, ifaces, maps, wideKeys, modest, calm, conditions, laid).
  DERIVED. THE GIVEN ROWS OF THIS SEAT. 6 by the template 'for every input the law returns true; each argument reads behind the call as it read before'; 0 by the template 'total and deterministic' (their statements: YtfdkinghcalhfaaTotals.lean).
  GIVEN WITH THE SEED: the statements are not yours to turn. If you find one false, say at which input.
  Laid BY PROGRAM, IN A SANDBOX (cutbox-rows.mjs): the forced cells as the released guide's own fill.sh prints them over the translation ceb29514c90cf6ca… (all of the seat's roots in one cut). By AI agents, Wed Nov 11 2026. No macro, syntax, notation, axiom, sorry.
-/
import Derived.Test.YtfdkinghcalhfaaChecked
import GoSem.Claim
import GoSem.ClaimJoined
import GoSem.ClaimMapViews
import Derived.JoinedTies
import Derived.KernelRfl
namespace Go.Proofs.Ytfdkinghcalhfaa
/- THE CELL 'sum', in the pinned program and in every row, IS THE sha256 OF THE DUMP (.gsa) THAT YtfdkinghcalhfaaProg.lean LOADS. Nothing in Lean hashes anything: it is a label: what it is worth is what the hold of that sum in a sandbox is worth. -/
noncomputable def Try.pinned : Pinned := { name := "ytfdkinghcalhfaa", sum := "ceb29514c90cf6ca76194bdceb5d7ec6fd885533a7eee2c62de32a855288a3f4", checked := Try.checked }
namespace Rows
def none {H : Type} : Left H := { results := [], args := [] }

/-- 'spatelaw4.PaneNames': WHATEVER THE INPUT: true; the input reads as it did. -/
def paneNamesSpec : ChangeSpec := { name := "paneNames", fn := fun _ => fun
  | [] => { results := [.lit (.bool true)], args := [] }
  | _ => none }
def paneNamesRow : OpenClaim := { program := "ytfdkinghcalhfaa", sum := "ceb29514c90cf6ca76194bdceb5d7ec6fd885533a7eee2c62de32a855288a3f4", func := "spate/spatelaw4.PaneNames", spec := "paneNames", apart := false }
def PaneNamesSaid : Prop := paneNamesRow.holds Try.pinned (OpenSpec.ofChange paneNamesSpec)

/-- ITS FALSE NEIGHBOUR: 'it returns false'. Refute it at one input. -/
def paneNamesWrong : ChangeSpec := { name := "paneNames", fn := fun _ => fun
  | [] => { results := [.lit (.bool false)], args := [] }
  | _ => none }
def PaneNamesWrongFalsely : Prop := paneNamesRow.holds Try.pinned (OpenSpec.ofChange paneNamesWrong)

/-- 'spatelaw4.PaneChecks': WHATEVER THE INPUT: true; the input reads as it did. -/
def paneChecksSpec : ChangeSpec := { name := "paneChecks", fn := fun _ => fun
  | [d] => { results := [.lit (.bool true)], args := [d] }
  | _ => none }
def paneChecksRow : OpenClaim := { program := "ytfdkinghcalhfaa", sum := "ceb29514c90cf6ca76194bdceb5d7ec6fd885533a7eee2c62de32a855288a3f4", func := "spate/spatelaw4.PaneChecks", spec := "paneChecks", apart := false }
def PaneChecksSaid : Prop := paneChecksRow.holds Try.pinned (OpenSpec.ofChange paneChecksSpec)

/-- ITS FALSE NEIGHBOUR: 'it returns false'. Refute it at one input. -/
def paneChecksWrong : ChangeSpec := { name := "paneChecks", fn := fun _ => fun
  | [d] => { results := [.lit (.bool false)], args := [d] }
  | _ => none }
def PaneChecksWrongFalsely : Prop := paneChecksRow.holds Try.pinned (OpenSpec.ofChange paneChecksWrong)

/-- 'spatelaw4.PaneStarts': WHATEVER THE INPUT: true; the input reads as it did. -/
def paneStartsSpec : ChangeSpec := { name := "paneStarts", fn := fun _ => fun
  | [d1, d2] => { results := [.lit (.bool true)], args := [d1, d2] }
  | _ => none }
def paneStartsRow : OpenClaim := { program := "ytfdkinghcalhfaa", sum := "ceb29514c90cf6ca76194bdceb5d7ec6fd885533a7eee2c62de32a855288a3f4", func := "spate/spatelaw4.PaneStarts", spec := "paneStarts", apart := false }
def PaneStartsSaid : Prop := paneStartsRow.holds Try.pinned (OpenSpec.ofChange paneStartsSpec)

/-- ITS FALSE NEIGHBOUR: 'it returns false'. Refute it at one input. -/
def paneStartsWrong : ChangeSpec := { name := "paneStarts", fn := fun _ => fun
  | [d1, d2] => { results := [.lit (.bool false)], args := [d1, d2] }
  | _ => none }
def PaneStartsWrongFalsely : Prop := paneStartsRow.holds Try.pinned (OpenSpec.ofChange paneStartsWrong)

/-- 'spatelaw4.PaneOpens': WHATEVER THE INPUT: true; the input reads as it did. -/
def paneOpensSpec : ChangeSpec := { name := "paneOpens", fn := fun _ => fun
  | [d1, d2, d3] => { results := [.lit (.bool true)], args := [d1, d2, d3] }
  | _ => none }
def paneOpensRow : OpenClaim := { program := "ytfdkinghcalhfaa", sum := "ceb29514c90cf6ca76194bdceb5d7ec6fd885533a7eee2c62de32a855288a3f4", func := "spate/spatelaw4.PaneOpens", spec := "paneOpens", unfollowed := true, recurses := true, apart := false }
def PaneOpensSaid : Prop := paneOpensRow.holds Try.pinned (OpenSpec.ofChange paneOpensSpec)

/-- ITS FALSE NEIGHBOUR: 'it returns false'. Refute it at one input. -/
def paneOpensWrong : ChangeSpec := { name := "paneOpens", fn := fun _ => fun
  | [d1, d2, d3] => { results := [.lit (.bool false)], args := [d1, d2, d3] }
  | _ => none }
def PaneOpensWrongFalsely : Prop := paneOpensRow.holds Try.pinned (OpenSpec.ofChange paneOpensWrong)

/-- 'spatelaw4.PaneEnds': WHATEVER THE INPUT: true; the input reads as it did. -/
def paneEndsSpec : ChangeSpec := { name := "paneEnds", fn := fun _ => fun
  | [d1, d2, d3] => { results := [.lit (.bool true)], args := [d1, d2, d3] }
  | _ => none }
def paneEndsRow : OpenClaim := { program := "ytfdkinghcalhfaa", sum := "ceb29514c90cf6ca76194bdceb5d7ec6fd885533a7eee2c62de32a855288a3f4", func := "spate/spatelaw4.PaneEnds", spec := "paneEnds", apart := false }
def PaneEndsSaid : Prop := paneEndsRow.holds Try.pinned (OpenSpec.ofChange paneEndsSpec)

/-- ITS FALSE NEIGHBOUR: 'it returns false'. Refute it at one input. -/
def paneEndsWrong : ChangeSpec := { name := "paneEnds", fn := fun _ => fun
  | [d1, d2, d3] => { results := [.lit (.bool false)], args := [d1, d2, d3] }
  | _ => none }
def PaneEndsWrongFalsely : Prop := paneEndsRow.holds Try.pinned (OpenSpec.ofChange paneEndsWrong)

/-- 'spatelaw4.PaneCounts': WHATEVER THE INPUT: true; the input reads as it did. -/
def paneCountsSpec : ChangeSpec := { name := "paneCounts", fn := fun _ => fun
  | [d1, d2] => { results := [.lit (.bool true)], args := [d1, d2] }
  | _ => none }
def paneCountsRow : OpenClaim := { program := "ytfdkinghcalhfaa", sum := "ceb29514c90cf6ca76194bdceb5d7ec6fd885533a7eee2c62de32a855288a3f4", func := "spate/spatelaw4.PaneCounts", spec := "paneCounts", apart := false }
def PaneCountsSaid : Prop := paneCountsRow.holds Try.pinned (OpenSpec.ofChange paneCountsSpec)

/-- ITS FALSE NEIGHBOUR: 'it returns false'. Refute it at one input. -/
def paneCountsWrong : ChangeSpec := { name := "paneCounts", fn := fun _ => fun
  | [d1, d2] => { results := [.lit (.bool false)], args := [d1, d2] }
  | _ => none }
def PaneCountsWrongFalsely : Prop := paneCountsRow.holds Try.pinned (OpenSpec.ofChange paneCountsWrong)

/- THE SECOND FORM. 'bulk': how many values and letters a reading holds, each counted each time it is reached (what is shared counts as often as it is met; a slice's spare places count too). A statement '..UptoSaid' is the law's where the arguments, and the package variables that the reading takes, are together of bulk at most 1048576: NARROWER than '..Said'. Prove '..Said' where nothing that the law and all that it calls make is longer than what came in: it says more and counts as full. Else prove '..UptoSaid'. A law counts once. -/
mutual
def uptoBulk {H : Type} : DataW H → Nat
  | .lit (.string bytes) => bytes.length + 1
  | .lit _ => 1
  | .nil => 1
  | .ptr d => uptoBulk d + 1
  | .slice elems spare => uptoBulkAll elems + uptoBulkAll spare + 1
  | .agg parts => uptoBulkAll parts + 1
  | .iface _ d => uptoBulk d + 1
  | .map entries => uptoBulkEntries entries + 1
  | .held _ => 1
def uptoBulkAll {H : Type} : List (DataW H) → Nat
  | [] => 0
  | d :: r => uptoBulk d + uptoBulkAll r
def uptoBulkEntries {H : Type} : List (Lit × DataW H) → Nat
  | [] => 0
  | x :: r => uptoBulkEntry x + uptoBulkEntries r
def uptoBulkEntry {H : Type} : Lit × DataW H → Nat
  | (.string bytes, d) => bytes.length + uptoBulk d + 1
  | (_, d) => uptoBulk d + 1
 end
def uptoSmall : (H : Type) → List (DataW H) → Bool := fun _ ds => decide (uptoBulkAll ds ≤ 1048576)
def OpenSpec.upto (s : _root_.Go.ChangeSpec) : _root_.Go.OpenSpec := { _root_.Go.OpenSpec.ofChange s with cond := some uptoSmall }

/-- 'spatelaw4.PaneNames', WHERE WHAT IT READS IS OF BULK AT MOST 1048576: true; the input reads as it did. -/
def paneNamesUptoRow : OpenClaim := { program := "ytfdkinghcalhfaa", sum := "ceb29514c90cf6ca76194bdceb5d7ec6fd885533a7eee2c62de32a855288a3f4", func := "spate/spatelaw4.PaneNames", spec := "paneNames", apart := false, narrowed := true }
def PaneNamesUptoSaid : Prop := paneNamesUptoRow.holds Try.pinned (OpenSpec.upto paneNamesSpec)

/-- 'spatelaw4.PaneChecks', WHERE WHAT IT READS IS OF BULK AT MOST 1048576: true; the input reads as it did. -/
def paneChecksUptoRow : OpenClaim := { program := "ytfdkinghcalhfaa", sum := "ceb29514c90cf6ca76194bdceb5d7ec6fd885533a7eee2c62de32a855288a3f4", func := "spate/spatelaw4.PaneChecks", spec := "paneChecks", apart := false, narrowed := true }
def PaneChecksUptoSaid : Prop := paneChecksUptoRow.holds Try.pinned (OpenSpec.upto paneChecksSpec)

/-- 'spatelaw4.PaneStarts', WHERE WHAT IT READS IS OF BULK AT MOST 1048576: true; the input reads as it did. -/
def paneStartsUptoRow : OpenClaim := { program := "ytfdkinghcalhfaa", sum := "ceb29514c90cf6ca76194bdceb5d7ec6fd885533a7eee2c62de32a855288a3f4", func := "spate/spatelaw4.PaneStarts", spec := "paneStarts", apart := false, narrowed := true }
def PaneStartsUptoSaid : Prop := paneStartsUptoRow.holds Try.pinned (OpenSpec.upto paneStartsSpec)

/-- 'spatelaw4.PaneOpens', WHERE WHAT IT READS IS OF BULK AT MOST 1048576: true; the input reads as it did. -/
def paneOpensUptoRow : OpenClaim := { program := "ytfdkinghcalhfaa", sum := "ceb29514c90cf6ca76194bdceb5d7ec6fd885533a7eee2c62de32a855288a3f4", func := "spate/spatelaw4.PaneOpens", spec := "paneOpens", unfollowed := true, recurses := true, apart := false, narrowed := true }
def PaneOpensUptoSaid : Prop := paneOpensUptoRow.holds Try.pinned (OpenSpec.upto paneOpensSpec)

/-- 'spatelaw4.PaneEnds', WHERE WHAT IT READS IS OF BULK AT MOST 1048576: true; the input reads as it did. -/
def paneEndsUptoRow : OpenClaim := { program := "ytfdkinghcalhfaa", sum := "ceb29514c90cf6ca76194bdceb5d7ec6fd885533a7eee2c62de32a855288a3f4", func := "spate/spatelaw4.PaneEnds", spec := "paneEnds", apart := false, narrowed := true }
def PaneEndsUptoSaid : Prop := paneEndsUptoRow.holds Try.pinned (OpenSpec.upto paneEndsSpec)

/-- 'spatelaw4.PaneCounts', WHERE WHAT IT READS IS OF BULK AT MOST 1048576: true; the input reads as it did. -/
def paneCountsUptoRow : OpenClaim := { program := "ytfdkinghcalhfaa", sum := "ceb29514c90cf6ca76194bdceb5d7ec6fd885533a7eee2c62de32a855288a3f4", func := "spate/spatelaw4.PaneCounts", spec := "paneCounts", apart := false, narrowed := true }
def PaneCountsUptoSaid : Prop := paneCountsUptoRow.holds Try.pinned (OpenSpec.upto paneCountsSpec)

end Rows
end Go.Proofs.Ytfdkinghcalhfaa
