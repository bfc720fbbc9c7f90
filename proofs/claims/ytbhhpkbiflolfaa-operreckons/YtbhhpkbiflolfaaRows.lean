/-
  No cell of these rows narrows 'for every input' (looked for: loops, veiled, ifaces, maps, wideKeys, modest, calm, conditions, laid).
  DERIVED. THE GIVEN ROWS OF THIS SEAT. 6 by the template 'for every input the law returns true; each argument reads behind the call as it read before'; 0 by the template 'total and deterministic' (their statements: YtbhhpkbiflolfaaTotals.lean).
  GIVEN WITH THE SEED: the statements are not yours to turn. If you find one false, say at which input.
  Laid BY PROGRAM, IN A SANDBOX (cutbox-rows.mjs): the forced cells as the released guide's own fill.sh prints them over the translation 38916ad1a41d0139… (all of the seat's roots in one cut). By AI agents, Wed Nov 11 2026. No macro, syntax, notation, axiom, sorry.
-/
import Derived.Test.YtbhhpkbiflolfaaChecked
import GoSem.Claim
import GoSem.ClaimJoined
import GoSem.ClaimMapViews
import Derived.JoinedTies
import Derived.KernelRfl
namespace Go.Proofs.Ytbhhpkbiflolfaa
/- THE CELL 'sum', in the pinned program and in every row, IS THE sha256 OF THE DUMP (.gsa) THAT YtbhhpkbiflolfaaProg.lean LOADS. Nothing in Lean hashes anything: it is a label: what it is worth is what the hold of that sum in a sandbox is worth. -/
noncomputable def Try.pinned : Pinned := { name := "ytbhhpkbiflolfaa", sum := "38916ad1a41d01395c5b7ccb915320bc6dd79e0b9200bf42e2d24ccda2f026f5", checked := Try.checked }
namespace Rows
def none {H : Type} : Left H := { results := [], args := [] }

/-- 'spatelaw14.OperPlays': WHATEVER THE INPUT: true; the input reads as it did. -/
def operPlaysSpec : ChangeSpec := { name := "operPlays", fn := fun _ => fun
  | [d1, d2, d3] => { results := [.lit (.bool true)], args := [d1, d2, d3] }
  | _ => none }
def operPlaysRow : OpenClaim := { program := "ytbhhpkbiflolfaa", sum := "38916ad1a41d01395c5b7ccb915320bc6dd79e0b9200bf42e2d24ccda2f026f5", func := "spate/spatelaw14.OperPlays", spec := "operPlays", inPlace := ["internal/bytealg.abigen_runtime_cmpstring"], unfollowed := true, recurses := true, plainKeys := false, apart := false }
def OperPlaysSaid : Prop := operPlaysRow.holds Try.pinned (OpenSpec.ofChange operPlaysSpec)

/-- ITS FALSE NEIGHBOUR: 'it returns false'. Refute it at one input. -/
def operPlaysWrong : ChangeSpec := { name := "operPlays", fn := fun _ => fun
  | [d1, d2, d3] => { results := [.lit (.bool false)], args := [d1, d2, d3] }
  | _ => none }
def OperPlaysWrongFalsely : Prop := operPlaysRow.holds Try.pinned (OpenSpec.ofChange operPlaysWrong)

/-- 'spatelaw14.OperReckons': WHATEVER THE INPUT: true; the input reads as it did. -/
def operReckonsSpec : ChangeSpec := { name := "operReckons", fn := fun _ => fun
  | [d1, d2] => { results := [.lit (.bool true)], args := [d1, d2] }
  | _ => none }
def operReckonsRow : OpenClaim := { program := "ytbhhpkbiflolfaa", sum := "38916ad1a41d01395c5b7ccb915320bc6dd79e0b9200bf42e2d24ccda2f026f5", func := "spate/spatelaw14.OperReckons", spec := "operReckons", inPlace := ["internal/bytealg.abigen_runtime_cmpstring", "internal/reflectlite.TypeOf"], unfollowed := true, recurses := true, plainKeys := false, apart := false }
def OperReckonsSaid : Prop := operReckonsRow.holds Try.pinned (OpenSpec.ofChange operReckonsSpec)

/-- ITS FALSE NEIGHBOUR: 'it returns false'. Refute it at one input. -/
def operReckonsWrong : ChangeSpec := { name := "operReckons", fn := fun _ => fun
  | [d1, d2] => { results := [.lit (.bool false)], args := [d1, d2] }
  | _ => none }
def OperReckonsWrongFalsely : Prop := operReckonsRow.holds Try.pinned (OpenSpec.ofChange operReckonsWrong)

/-- 'spatelaw14.OperOpen': WHATEVER THE INPUT: true; the input reads as it did. -/
def operOpenSpec : ChangeSpec := { name := "operOpen", fn := fun _ => fun
  | [d1, d2, d3] => { results := [.lit (.bool true)], args := [d1, d2, d3] }
  | _ => none }
def operOpenRow : OpenClaim := { program := "ytbhhpkbiflolfaa", sum := "38916ad1a41d01395c5b7ccb915320bc6dd79e0b9200bf42e2d24ccda2f026f5", func := "spate/spatelaw14.OperOpen", spec := "operOpen", inPlace := ["internal/bytealg.abigen_runtime_cmpstring"], unfollowed := true, recurses := true, plainKeys := false, apart := false }
def OperOpenSaid : Prop := operOpenRow.holds Try.pinned (OpenSpec.ofChange operOpenSpec)

/-- ITS FALSE NEIGHBOUR: 'it returns false'. Refute it at one input. -/
def operOpenWrong : ChangeSpec := { name := "operOpen", fn := fun _ => fun
  | [d1, d2, d3] => { results := [.lit (.bool false)], args := [d1, d2, d3] }
  | _ => none }
def OperOpenWrongFalsely : Prop := operOpenRow.holds Try.pinned (OpenSpec.ofChange operOpenWrong)

/-- 'spatelaw14.OperOrders': WHATEVER THE INPUT: true; the input reads as it did. -/
def operOrdersSpec : ChangeSpec := { name := "operOrders", fn := fun _ => fun
  | [d1, d2, d3, d4, d5] => { results := [.lit (.bool true)], args := [d1, d2, d3, d4, d5] }
  | _ => none }
def operOrdersRow : OpenClaim := { program := "ytbhhpkbiflolfaa", sum := "38916ad1a41d01395c5b7ccb915320bc6dd79e0b9200bf42e2d24ccda2f026f5", func := "spate/spatelaw14.OperOrders", spec := "operOrders", inPlace := ["internal/bytealg.abigen_runtime_cmpstring"], unfollowed := true, recurses := true, plainKeys := false, apart := false }
def OperOrdersSaid : Prop := operOrdersRow.holds Try.pinned (OpenSpec.ofChange operOrdersSpec)

/-- ITS FALSE NEIGHBOUR: 'it returns false'. Refute it at one input. -/
def operOrdersWrong : ChangeSpec := { name := "operOrders", fn := fun _ => fun
  | [d1, d2, d3, d4, d5] => { results := [.lit (.bool false)], args := [d1, d2, d3, d4, d5] }
  | _ => none }
def OperOrdersWrongFalsely : Prop := operOrdersRow.holds Try.pinned (OpenSpec.ofChange operOrdersWrong)

/-- 'spatelaw14.OperOwn': WHATEVER THE INPUT: true; the input reads as it did. -/
def operOwnSpec : ChangeSpec := { name := "operOwn", fn := fun _ => fun
  | [d1, d2, d3, d4] => { results := [.lit (.bool true)], args := [d1, d2, d3, d4] }
  | _ => none }
def operOwnRow : OpenClaim := { program := "ytbhhpkbiflolfaa", sum := "38916ad1a41d01395c5b7ccb915320bc6dd79e0b9200bf42e2d24ccda2f026f5", func := "spate/spatelaw14.OperOwn", spec := "operOwn", inPlace := ["internal/bytealg.abigen_runtime_cmpstring"], unfollowed := true, recurses := true, plainKeys := false, apart := false }
def OperOwnSaid : Prop := operOwnRow.holds Try.pinned (OpenSpec.ofChange operOwnSpec)

/-- ITS FALSE NEIGHBOUR: 'it returns false'. Refute it at one input. -/
def operOwnWrong : ChangeSpec := { name := "operOwn", fn := fun _ => fun
  | [d1, d2, d3, d4] => { results := [.lit (.bool false)], args := [d1, d2, d3, d4] }
  | _ => none }
def OperOwnWrongFalsely : Prop := operOwnRow.holds Try.pinned (OpenSpec.ofChange operOwnWrong)

/-- 'spatelaw14.OperMany': WHATEVER THE INPUT: true; the input reads as it did. -/
def operManySpec : ChangeSpec := { name := "operMany", fn := fun _ => fun
  | [d1, d2, d3, d4] => { results := [.lit (.bool true)], args := [d1, d2, d3, d4] }
  | _ => none }
def operManyRow : OpenClaim := { program := "ytbhhpkbiflolfaa", sum := "38916ad1a41d01395c5b7ccb915320bc6dd79e0b9200bf42e2d24ccda2f026f5", func := "spate/spatelaw14.OperMany", spec := "operMany", inPlace := ["internal/bytealg.abigen_runtime_cmpstring"], unfollowed := true, recurses := true, plainKeys := false, apart := false }
def OperManySaid : Prop := operManyRow.holds Try.pinned (OpenSpec.ofChange operManySpec)

/-- ITS FALSE NEIGHBOUR: 'it returns false'. Refute it at one input. -/
def operManyWrong : ChangeSpec := { name := "operMany", fn := fun _ => fun
  | [d1, d2, d3, d4] => { results := [.lit (.bool false)], args := [d1, d2, d3, d4] }
  | _ => none }
def OperManyWrongFalsely : Prop := operManyRow.holds Try.pinned (OpenSpec.ofChange operManyWrong)

/- THE SECOND FORM. 'bulk': how many values and letters a reading holds, each counted each time it is reached (what is shared counts as often as it is met; a slice's spare places count too). A statement '..UptoSaid' is the law's where the arguments, and the package variables that the reading takes, are together of bulk at most 1048576: NARROWER than '..Said'. Prove '..Said' where nothing that the law and all that it calls make is longer than what came in: it says more and counts as full. Else prove '..UptoSaid'. A law counts once. -/
mutual
def uptoBulk {H : Type} : DataW H → Nat
  | .lit (.string bytes) => bytes.length + 1
  | .lit _ => 1
  | .nil => 1
  | .ptr d => uptoBulk d + 1
  | .slice elems spare => uptoBulkAll elems + uptoBulkAll spare + 1
  | .agg parts => uptoBulkAll parts + 1
  | .iface _ d => uptoBulk d + 1
  | .map entries => uptoBulkEntries entries + 1
  | .held _ => 1
def uptoBulkAll {H : Type} : List (DataW H) → Nat
  | [] => 0
  | d :: r => uptoBulk d + uptoBulkAll r
def uptoBulkEntries {H : Type} : List (Lit × DataW H) → Nat
  | [] => 0
  | x :: r => uptoBulkEntry x + uptoBulkEntries r
def uptoBulkEntry {H : Type} : Lit × DataW H → Nat
  | (.string bytes, d) => bytes.length + uptoBulk d + 1
  | (_, d) => uptoBulk d + 1
 end
def uptoSmall : (H : Type) → List (DataW H) → Bool := fun _ ds => decide (uptoBulkAll ds ≤ 1048576)
def OpenSpec.upto (s : _root_.Go.ChangeSpec) : _root_.Go.OpenSpec := { _root_.Go.OpenSpec.ofChange s with cond := some uptoSmall }

/-- 'spatelaw14.OperPlays', WHERE WHAT IT READS IS OF BULK AT MOST 1048576: true; the input reads as it did. -/
def operPlaysUptoRow : OpenClaim := { program := "ytbhhpkbiflolfaa", sum := "38916ad1a41d01395c5b7ccb915320bc6dd79e0b9200bf42e2d24ccda2f026f5", func := "spate/spatelaw14.OperPlays", spec := "operPlays", inPlace := ["internal/bytealg.abigen_runtime_cmpstring"], unfollowed := true, recurses := true, plainKeys := false, apart := false, narrowed := true }
def OperPlaysUptoSaid : Prop := operPlaysUptoRow.holds Try.pinned (OpenSpec.upto operPlaysSpec)

/-- 'spatelaw14.OperReckons', WHERE WHAT IT READS IS OF BULK AT MOST 1048576: true; the input reads as it did. -/
def operReckonsUptoRow : OpenClaim := { program := "ytbhhpkbiflolfaa", sum := "38916ad1a41d01395c5b7ccb915320bc6dd79e0b9200bf42e2d24ccda2f026f5", func := "spate/spatelaw14.OperReckons", spec := "operReckons", inPlace := ["internal/bytealg.abigen_runtime_cmpstring", "internal/reflectlite.TypeOf"], unfollowed := true, recurses := true, plainKeys := false, apart := false, narrowed := true }
def OperReckonsUptoSaid : Prop := operReckonsUptoRow.holds Try.pinned (OpenSpec.upto operReckonsSpec)

/-- 'spatelaw14.OperOpen', WHERE WHAT IT READS IS OF BULK AT MOST 1048576: true; the input reads as it did. -/
def operOpenUptoRow : OpenClaim := { program := "ytbhhpkbiflolfaa", sum := "38916ad1a41d01395c5b7ccb915320bc6dd79e0b9200bf42e2d24ccda2f026f5", func := "spate/spatelaw14.OperOpen", spec := "operOpen", inPlace := ["internal/bytealg.abigen_runtime_cmpstring"], unfollowed := true, recurses := true, plainKeys := false, apart := false, narrowed := true }
def OperOpenUptoSaid : Prop := operOpenUptoRow.holds Try.pinned (OpenSpec.upto operOpenSpec)

/-- 'spatelaw14.OperOrders', WHERE WHAT IT READS IS OF BULK AT MOST 1048576: true; the input reads as it did. -/
def operOrdersUptoRow : OpenClaim := { program := "ytbhhpkbiflolfaa", sum := "38916ad1a41d01395c5b7ccb915320bc6dd79e0b9200bf42e2d24ccda2f026f5", func := "spate/spatelaw14.OperOrders", spec := "operOrders", inPlace := ["internal/bytealg.abigen_runtime_cmpstring"], unfollowed := true, recurses := true, plainKeys := false, apart := false, narrowed := true }
def OperOrdersUptoSaid : Prop := operOrdersUptoRow.holds Try.pinned (OpenSpec.upto operOrdersSpec)

/-- 'spatelaw14.OperOwn', WHERE WHAT IT READS IS OF BULK AT MOST 1048576: true; the input reads as it did. -/
def operOwnUptoRow : OpenClaim := { program := "ytbhhpkbiflolfaa", sum := "38916ad1a41d01395c5b7ccb915320bc6dd79e0b9200bf42e2d24ccda2f026f5", func := "spate/spatelaw14.OperOwn", spec := "operOwn", inPlace := ["internal/bytealg.abigen_runtime_cmpstring"], unfollowed := true, recurses := true, plainKeys := false, apart := false, narrowed := true }
def OperOwnUptoSaid : Prop := operOwnUptoRow.holds Try.pinned (OpenSpec.upto operOwnSpec)

/-- 'spatelaw14.OperMany', WHERE WHAT IT READS IS OF BULK AT MOST 1048576: true; the input reads as it did. -/
def operManyUptoRow : OpenClaim := { program := "ytbhhpkbiflolfaa", sum := "38916ad1a41d01395c5b7ccb915320bc6dd79e0b9200bf42e2d24ccda2f026f5", func := "spate/spatelaw14.OperMany", spec := "operMany", inPlace := ["internal/bytealg.abigen_runtime_cmpstring"], unfollowed := true, recurses := true, plainKeys := false, apart := false, narrowed := true }
def OperManyUptoSaid : Prop := operManyUptoRow.holds Try.pinned (OpenSpec.upto operManySpec)

end Rows
end Go.Proofs.Ytbhhpkbiflolfaa
