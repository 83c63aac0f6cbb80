/-
  NARROWER THAN 'FOR EVERY INPUT', by the rows' own cells (each row's printed sentence says how): TupleParams: laid · TupleRands: laid · TupleTuples: laid · TupleBounds: laid · TupleGrows: laid.
  DERIVED. THE GIVEN ROWS OF THIS SEAT. 5 by the template 'for every input the law returns true; each argument reads behind the call as it read before'; 0 by the template 'total and deterministic' (their statements: YtlmnijcocfjpoaaDoorTotals.lean).
  GIVEN WITH THE SEED: the statements are not yours to turn. If you find one false, say at which input.
  Laid BY PROGRAM, IN A SANDBOX (cutbox-rows.mjs): the forced cells as the released guide's own fill.sh prints them over the translation 1c174a2dd49a4c57… (all of the seat's roots in one cut). By AI agents, Wed Nov 11 2026. No macro, syntax, notation, axiom, sorry.
-/
import Derived.Test.YtlmnijcocfjpoaaDoorChecked
import GoSem.Claim
import GoSem.ClaimJoined
import GoSem.ClaimMapViews
import Derived.JoinedTies
import Derived.KernelRfl
namespace Go.Proofs.YtlmnijcocfjpoaaDoor
/- THE CELL 'sum', in the pinned program and in every row, IS THE sha256 OF THE DUMP (.gsa) THAT YtlmnijcocfjpoaaDoorProg.lean LOADS. Nothing in Lean hashes anything: it is a label: what it is worth is what the hold of that sum in a sandbox is worth. -/
noncomputable def Tryd.pinned : Pinned := { name := "ytlmnijcocfjpoaadoor", sum := "1c174a2dd49a4c5798929b50677228df2eb6ecbd62578984d2574d6742aabc10", checked := Tryd.checked }
namespace Rows
def none {H : Type} : Left H := { results := [], args := [] }

/- WHAT THE LISTED PACKAGE-LEVEL VARIABLES READ AS WHEN THE CALL BEGINS. Each datum BY PROGRAM (the guide's laid-datum.mjs) off the statement by which the dump's own 'gosem.cut.vars' lays the variable. In a bare row this is a premise. The card (YtlmnijcocfjpoaaDoorCards.lean) ties it to the program's text. -/
def laid_rill_tuple_bounds {H : Type} : DataW H := .agg [.lit (.int .i64 5243), .lit (.int .i64 529531), .lit (.int .i64 704294), .lit (.int .i64 791675), .lit (.int .i64 844104), .lit (.int .i64 879057), .lit (.int .i64 904023), .lit (.int .i64 922747), .lit (.int .i64 937311), .lit (.int .i64 948962), .lit (.int .i64 958494), .lit (.int .i64 966438), .lit (.int .i64 973160), .lit (.int .i64 978921), .lit (.int .i64 983914), .lit (.int .i64 988283), .lit (.int .i64 992138), .lit (.int .i64 995565), .lit (.int .i64 998631), .lit (.int .i64 1001391), .lit (.int .i64 1003887), .lit (.int .i64 1006157), .lit (.int .i64 1008229), .lit (.int .i64 1010129), .lit (.int .i64 1011876), .lit (.int .i64 1013490), .lit (.int .i64 1014983), .lit (.int .i64 1016370), .lit (.int .i64 1017662), .lit (.int .i64 1048576)]

/-- 'rilllaw03.TupleParams': WHATEVER THE INPUT: true; the input reads as it did. -/
def tupleParamsSpec : ChangeSpec := { name := "tupleParams", fn := fun _ => fun
  | [d] => { results := [.lit (.bool true)], args := [d] }
  | _ => none }
def tupleParamsRow : OpenClaim := { program := "ytlmnijcocfjpoaadoor", sum := "1c174a2dd49a4c5798929b50677228df2eb6ecbd62578984d2574d6742aabc10", func := "rill/rilllaw03.TupleParams", spec := "tupleParams", named := ["rill/tuple.bounds"], apart := false, laid := [("rill/tuple.bounds", laid_rill_tuple_bounds)] }
def TupleParamsSaid : Prop := tupleParamsRow.holds Tryd.pinned (OpenSpec.ofChange tupleParamsSpec)

/-- ITS FALSE NEIGHBOUR: 'it returns false'. Refute it at one input. -/
def tupleParamsWrong : ChangeSpec := { name := "tupleParams", fn := fun _ => fun
  | [d] => { results := [.lit (.bool false)], args := [d] }
  | _ => none }
def TupleParamsWrongFalsely : Prop := tupleParamsRow.holds Tryd.pinned (OpenSpec.ofChange tupleParamsWrong)

/-- 'rilllaw03.TupleRands': WHATEVER THE INPUT: true; the input reads as it did. -/
def tupleRandsSpec : ChangeSpec := { name := "tupleRands", fn := fun _ => fun
  | [d1, d2, d3, d4, d5] => { results := [.lit (.bool true)], args := [d1, d2, d3, d4, d5] }
  | _ => none }
def tupleRandsRow : OpenClaim := { program := "ytlmnijcocfjpoaadoor", sum := "1c174a2dd49a4c5798929b50677228df2eb6ecbd62578984d2574d6742aabc10", func := "rill/rilllaw03.TupleRands", spec := "tupleRands", named := ["rill/tuple.bounds"], apart := false, laid := [("rill/tuple.bounds", laid_rill_tuple_bounds)] }
def TupleRandsSaid : Prop := tupleRandsRow.holds Tryd.pinned (OpenSpec.ofChange tupleRandsSpec)

/-- ITS FALSE NEIGHBOUR: 'it returns false'. Refute it at one input. -/
def tupleRandsWrong : ChangeSpec := { name := "tupleRands", fn := fun _ => fun
  | [d1, d2, d3, d4, d5] => { results := [.lit (.bool false)], args := [d1, d2, d3, d4, d5] }
  | _ => none }
def TupleRandsWrongFalsely : Prop := tupleRandsRow.holds Tryd.pinned (OpenSpec.ofChange tupleRandsWrong)

/-- 'rilllaw03.TupleTuples': WHATEVER THE INPUT: true; the input reads as it did. -/
def tupleTuplesSpec : ChangeSpec := { name := "tupleTuples", fn := fun _ => fun
  | [d1, d2] => { results := [.lit (.bool true)], args := [d1, d2] }
  | _ => none }
def tupleTuplesRow : OpenClaim := { program := "ytlmnijcocfjpoaadoor", sum := "1c174a2dd49a4c5798929b50677228df2eb6ecbd62578984d2574d6742aabc10", func := "rill/rilllaw03.TupleTuples", spec := "tupleTuples", named := ["rill/tuple.bounds"], apart := false, laid := [("rill/tuple.bounds", laid_rill_tuple_bounds)] }
def TupleTuplesSaid : Prop := tupleTuplesRow.holds Tryd.pinned (OpenSpec.ofChange tupleTuplesSpec)

/-- ITS FALSE NEIGHBOUR: 'it returns false'. Refute it at one input. -/
def tupleTuplesWrong : ChangeSpec := { name := "tupleTuples", fn := fun _ => fun
  | [d1, d2] => { results := [.lit (.bool false)], args := [d1, d2] }
  | _ => none }
def TupleTuplesWrongFalsely : Prop := tupleTuplesRow.holds Tryd.pinned (OpenSpec.ofChange tupleTuplesWrong)

/-- 'rilllaw03.TupleBounds': WHATEVER THE INPUT: true; the input reads as it did. -/
def tupleBoundsSpec : ChangeSpec := { name := "tupleBounds", fn := fun _ => fun
  | [d1, d2] => { results := [.lit (.bool true)], args := [d1, d2] }
  | _ => none }
def tupleBoundsRow : OpenClaim := { program := "ytlmnijcocfjpoaadoor", sum := "1c174a2dd49a4c5798929b50677228df2eb6ecbd62578984d2574d6742aabc10", func := "rill/rilllaw03.TupleBounds", spec := "tupleBounds", named := ["rill/tuple.bounds"], apart := false, laid := [("rill/tuple.bounds", laid_rill_tuple_bounds)] }
def TupleBoundsSaid : Prop := tupleBoundsRow.holds Tryd.pinned (OpenSpec.ofChange tupleBoundsSpec)

/-- ITS FALSE NEIGHBOUR: 'it returns false'. Refute it at one input. -/
def tupleBoundsWrong : ChangeSpec := { name := "tupleBounds", fn := fun _ => fun
  | [d1, d2] => { results := [.lit (.bool false)], args := [d1, d2] }
  | _ => none }
def TupleBoundsWrongFalsely : Prop := tupleBoundsRow.holds Tryd.pinned (OpenSpec.ofChange tupleBoundsWrong)

/-- 'rilllaw03.TupleGrows': WHATEVER THE INPUT: true; the input reads as it did. -/
def tupleGrowsSpec : ChangeSpec := { name := "tupleGrows", fn := fun _ => fun
  | [d1, d2, d3, d4, d5] => { results := [.lit (.bool true)], args := [d1, d2, d3, d4, d5] }
  | _ => none }
def tupleGrowsRow : OpenClaim := { program := "ytlmnijcocfjpoaadoor", sum := "1c174a2dd49a4c5798929b50677228df2eb6ecbd62578984d2574d6742aabc10", func := "rill/rilllaw03.TupleGrows", spec := "tupleGrows", named := ["rill/tuple.bounds"], apart := false, laid := [("rill/tuple.bounds", laid_rill_tuple_bounds)] }
def TupleGrowsSaid : Prop := tupleGrowsRow.holds Tryd.pinned (OpenSpec.ofChange tupleGrowsSpec)

/-- ITS FALSE NEIGHBOUR: 'it returns false'. Refute it at one input. -/
def tupleGrowsWrong : ChangeSpec := { name := "tupleGrows", fn := fun _ => fun
  | [d1, d2, d3, d4, d5] => { results := [.lit (.bool false)], args := [d1, d2, d3, d4, d5] }
  | _ => none }
def TupleGrowsWrongFalsely : Prop := tupleGrowsRow.holds Tryd.pinned (OpenSpec.ofChange tupleGrowsWrong)

/- THE SECOND FORM. 'bulk': how many values and letters a reading holds, each counted each time it is reached (what is shared counts as often as it is met; a slice's spare places count too). A statement '..UptoSaid' is the law's where the arguments, and the package variables that the reading takes, are together of bulk at most 1048576: NARROWER than '..Said'. Prove '..Said' where nothing that the law and all that it calls make is longer than what came in: it says more and counts as full. Else prove '..UptoSaid'. A law counts once. -/
mutual
def uptoBulk {H : Type} : DataW H → Nat
  | .lit (.string bytes) => bytes.length + 1
  | .lit _ => 1
  | .nil => 1
  | .ptr d => uptoBulk d + 1
  | .slice elems spare => uptoBulkAll elems + uptoBulkAll spare + 1
  | .agg parts => uptoBulkAll parts + 1
  | .iface _ d => uptoBulk d + 1
  | .map entries => uptoBulkEntries entries + 1
  | .held _ => 1
def uptoBulkAll {H : Type} : List (DataW H) → Nat
  | [] => 0
  | d :: r => uptoBulk d + uptoBulkAll r
def uptoBulkEntries {H : Type} : List (Lit × DataW H) → Nat
  | [] => 0
  | x :: r => uptoBulkEntry x + uptoBulkEntries r
def uptoBulkEntry {H : Type} : Lit × DataW H → Nat
  | (.string bytes, d) => bytes.length + uptoBulk d + 1
  | (_, d) => uptoBulk d + 1
 end
def uptoSmall : (H : Type) → List (DataW H) → Bool := fun _ ds => decide (uptoBulkAll ds ≤ 1048576)
def OpenSpec.upto (s : _root_.Go.ChangeSpec) : _root_.Go.OpenSpec := { _root_.Go.OpenSpec.ofChange s with cond := some uptoSmall }

/-- 'rilllaw03.TupleParams', WHERE WHAT IT READS IS OF BULK AT MOST 1048576: true; the input reads as it did. -/
def tupleParamsUptoRow : OpenClaim := { program := "ytlmnijcocfjpoaadoor", sum := "1c174a2dd49a4c5798929b50677228df2eb6ecbd62578984d2574d6742aabc10", func := "rill/rilllaw03.TupleParams", spec := "tupleParams", named := ["rill/tuple.bounds"], apart := false, laid := [("rill/tuple.bounds", laid_rill_tuple_bounds)], narrowed := true }
def TupleParamsUptoSaid : Prop := tupleParamsUptoRow.holds Tryd.pinned (OpenSpec.upto tupleParamsSpec)

/-- 'rilllaw03.TupleRands', WHERE WHAT IT READS IS OF BULK AT MOST 1048576: true; the input reads as it did. -/
def tupleRandsUptoRow : OpenClaim := { program := "ytlmnijcocfjpoaadoor", sum := "1c174a2dd49a4c5798929b50677228df2eb6ecbd62578984d2574d6742aabc10", func := "rill/rilllaw03.TupleRands", spec := "tupleRands", named := ["rill/tuple.bounds"], apart := false, laid := [("rill/tuple.bounds", laid_rill_tuple_bounds)], narrowed := true }
def TupleRandsUptoSaid : Prop := tupleRandsUptoRow.holds Tryd.pinned (OpenSpec.upto tupleRandsSpec)

/-- 'rilllaw03.TupleTuples', WHERE WHAT IT READS IS OF BULK AT MOST 1048576: true; the input reads as it did. -/
def tupleTuplesUptoRow : OpenClaim := { program := "ytlmnijcocfjpoaadoor", sum := "1c174a2dd49a4c5798929b50677228df2eb6ecbd62578984d2574d6742aabc10", func := "rill/rilllaw03.TupleTuples", spec := "tupleTuples", named := ["rill/tuple.bounds"], apart := false, laid := [("rill/tuple.bounds", laid_rill_tuple_bounds)], narrowed := true }
def TupleTuplesUptoSaid : Prop := tupleTuplesUptoRow.holds Tryd.pinned (OpenSpec.upto tupleTuplesSpec)

/-- 'rilllaw03.TupleBounds', WHERE WHAT IT READS IS OF BULK AT MOST 1048576: true; the input reads as it did. -/
def tupleBoundsUptoRow : OpenClaim := { program := "ytlmnijcocfjpoaadoor", sum := "1c174a2dd49a4c5798929b50677228df2eb6ecbd62578984d2574d6742aabc10", func := "rill/rilllaw03.TupleBounds", spec := "tupleBounds", named := ["rill/tuple.bounds"], apart := false, laid := [("rill/tuple.bounds", laid_rill_tuple_bounds)], narrowed := true }
def TupleBoundsUptoSaid : Prop := tupleBoundsUptoRow.holds Tryd.pinned (OpenSpec.upto tupleBoundsSpec)

/-- 'rilllaw03.TupleGrows', WHERE WHAT IT READS IS OF BULK AT MOST 1048576: true; the input reads as it did. -/
def tupleGrowsUptoRow : OpenClaim := { program := "ytlmnijcocfjpoaadoor", sum := "1c174a2dd49a4c5798929b50677228df2eb6ecbd62578984d2574d6742aabc10", func := "rill/rilllaw03.TupleGrows", spec := "tupleGrows", named := ["rill/tuple.bounds"], apart := false, laid := [("rill/tuple.bounds", laid_rill_tuple_bounds)], narrowed := true }
def TupleGrowsUptoSaid : Prop := tupleGrowsUptoRow.holds Tryd.pinned (OpenSpec.upto tupleGrowsSpec)

end Rows
end Go.Proofs.YtlmnijcocfjpoaaDoor
