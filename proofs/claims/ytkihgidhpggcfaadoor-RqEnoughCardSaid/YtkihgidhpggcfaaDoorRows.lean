/-
  NARROWER THAN 'FOR EVERY INPUT', by the rows' own cells (each row's printed sentence says how): RqRows: laid · RqEncodes: laid · RqDecodes: laid · RqEnough: laid · RqRound: laid · RqSource: laid · RqLinear: laid · RqInner: laid · RqSpoilt: laid · RqMore: laid · RqPadded: laid.
  DERIVED. THE GIVEN ROWS OF THIS SEAT. 11 by the template 'for every input the law returns true; each argument reads behind the call as it read before'; 0 by the template 'total and deterministic' (their statements: YtkihgidhpggcfaaDoorTotals.lean).
  GIVEN WITH THE SEED: the statements are not yours to turn. If you find one false, say at which input.
  Laid BY PROGRAM, IN A SANDBOX (cutbox-rows.mjs): the forced cells as the released guide's own fill.sh prints them over the translation b689278013562760… (all of the seat's roots in one cut). By AI agents, Wed Nov 11 2026. No macro, syntax, notation, axiom, sorry.
-/
import Derived.Test.YtkihgidhpggcfaaDoorChecked
import GoSem.Claim
import GoSem.ClaimJoined
import GoSem.ClaimMapViews
import Derived.JoinedTies
import Derived.KernelRfl
namespace Go.Proofs.YtkihgidhpggcfaaDoor
/- THE CELL 'sum', in the pinned program and in every row, IS THE sha256 OF THE DUMP (.gsa) THAT YtkihgidhpggcfaaDoorProg.lean LOADS. Nothing in Lean hashes anything: it is a label: what it is worth is what the hold of that sum in a sandbox is worth. -/
noncomputable def Tryd.pinned : Pinned := { name := "ytkihgidhpggcfaadoor", sum := "b6892780135627601533b232ac7fee63bbe5b2a4ce1747d16280da776040d64e", checked := Tryd.checked }
namespace Rows
def none {H : Type} : Left H := { results := [], args := [] }

/- WHAT THE LISTED PACKAGE-LEVEL VARIABLES READ AS WHEN THE CALL BEGINS. Each datum BY PROGRAM (the guide's laid-datum.mjs) off the statement by which the dump's own 'gosem.cut.vars' lays the variable. In a bare row this is a premise. The card (YtkihgidhpggcfaaDoorCards.lean) ties it to the program's text. -/
def laid_rill_tuple_bounds {H : Type} : DataW H := .agg [.lit (.int .i64 5243), .lit (.int .i64 529531), .lit (.int .i64 704294), .lit (.int .i64 791675), .lit (.int .i64 844104), .lit (.int .i64 879057), .lit (.int .i64 904023), .lit (.int .i64 922747), .lit (.int .i64 937311), .lit (.int .i64 948962), .lit (.int .i64 958494), .lit (.int .i64 966438), .lit (.int .i64 973160), .lit (.int .i64 978921), .lit (.int .i64 983914), .lit (.int .i64 988283), .lit (.int .i64 992138), .lit (.int .i64 995565), .lit (.int .i64 998631), .lit (.int .i64 1001391), .lit (.int .i64 1003887), .lit (.int .i64 1006157), .lit (.int .i64 1008229), .lit (.int .i64 1010129), .lit (.int .i64 1011876), .lit (.int .i64 1013490), .lit (.int .i64 1014983), .lit (.int .i64 1016370), .lit (.int .i64 1017662), .lit (.int .i64 1048576)]

/-- 'rilllaw04.RqRows': WHATEVER THE INPUT: true; the input reads as it did. -/
def rqRowsSpec : ChangeSpec := { name := "rqRows", fn := fun _ => fun
  | [d1, d2] => { results := [.lit (.bool true)], args := [d1, d2] }
  | _ => none }
def rqRowsRow : OpenClaim := { program := "ytkihgidhpggcfaadoor", sum := "b6892780135627601533b232ac7fee63bbe5b2a4ce1747d16280da776040d64e", func := "rill/rilllaw04.RqRows", spec := "rqRows", unfollowed := true, recurses := true, named := ["rill/tuple.bounds"], apart := false, laid := [("rill/tuple.bounds", laid_rill_tuple_bounds)] }
def RqRowsSaid : Prop := rqRowsRow.holds Tryd.pinned (OpenSpec.ofChange rqRowsSpec)

/-- ITS FALSE NEIGHBOUR: 'it returns false'. Refute it at one input. -/
def rqRowsWrong : ChangeSpec := { name := "rqRows", fn := fun _ => fun
  | [d1, d2] => { results := [.lit (.bool false)], args := [d1, d2] }
  | _ => none }
def RqRowsWrongFalsely : Prop := rqRowsRow.holds Tryd.pinned (OpenSpec.ofChange rqRowsWrong)

/-- 'rilllaw04.RqEncodes': WHATEVER THE INPUT: true; the input reads as it did. -/
def rqEncodesSpec : ChangeSpec := { name := "rqEncodes", fn := fun _ => fun
  | [d1, d2] => { results := [.lit (.bool true)], args := [d1, d2] }
  | _ => none }
def rqEncodesRow : OpenClaim := { program := "ytkihgidhpggcfaadoor", sum := "b6892780135627601533b232ac7fee63bbe5b2a4ce1747d16280da776040d64e", func := "rill/rilllaw04.RqEncodes", spec := "rqEncodes", unfollowed := true, recurses := true, named := ["rill/tuple.bounds"], apart := false, laid := [("rill/tuple.bounds", laid_rill_tuple_bounds)] }
def RqEncodesSaid : Prop := rqEncodesRow.holds Tryd.pinned (OpenSpec.ofChange rqEncodesSpec)

/-- ITS FALSE NEIGHBOUR: 'it returns false'. Refute it at one input. -/
def rqEncodesWrong : ChangeSpec := { name := "rqEncodes", fn := fun _ => fun
  | [d1, d2] => { results := [.lit (.bool false)], args := [d1, d2] }
  | _ => none }
def RqEncodesWrongFalsely : Prop := rqEncodesRow.holds Tryd.pinned (OpenSpec.ofChange rqEncodesWrong)

/-- 'rilllaw04.RqDecodes': WHATEVER THE INPUT: true; the input reads as it did. -/
def rqDecodesSpec : ChangeSpec := { name := "rqDecodes", fn := fun _ => fun
  | [d1, d2, d3] => { results := [.lit (.bool true)], args := [d1, d2, d3] }
  | _ => none }
def rqDecodesRow : OpenClaim := { program := "ytkihgidhpggcfaadoor", sum := "b6892780135627601533b232ac7fee63bbe5b2a4ce1747d16280da776040d64e", func := "rill/rilllaw04.RqDecodes", spec := "rqDecodes", unfollowed := true, recurses := true, named := ["rill/tuple.bounds"], apart := false, laid := [("rill/tuple.bounds", laid_rill_tuple_bounds)] }
def RqDecodesSaid : Prop := rqDecodesRow.holds Tryd.pinned (OpenSpec.ofChange rqDecodesSpec)

/-- ITS FALSE NEIGHBOUR: 'it returns false'. Refute it at one input. -/
def rqDecodesWrong : ChangeSpec := { name := "rqDecodes", fn := fun _ => fun
  | [d1, d2, d3] => { results := [.lit (.bool false)], args := [d1, d2, d3] }
  | _ => none }
def RqDecodesWrongFalsely : Prop := rqDecodesRow.holds Tryd.pinned (OpenSpec.ofChange rqDecodesWrong)

/-- 'rilllaw04.RqEnough': WHATEVER THE INPUT: true; the input reads as it did. -/
def rqEnoughSpec : ChangeSpec := { name := "rqEnough", fn := fun _ => fun
  | [d1, d2] => { results := [.lit (.bool true)], args := [d1, d2] }
  | _ => none }
def rqEnoughRow : OpenClaim := { program := "ytkihgidhpggcfaadoor", sum := "b6892780135627601533b232ac7fee63bbe5b2a4ce1747d16280da776040d64e", func := "rill/rilllaw04.RqEnough", spec := "rqEnough", unfollowed := true, recurses := true, named := ["rill/tuple.bounds"], apart := false, laid := [("rill/tuple.bounds", laid_rill_tuple_bounds)] }
def RqEnoughSaid : Prop := rqEnoughRow.holds Tryd.pinned (OpenSpec.ofChange rqEnoughSpec)

/-- ITS FALSE NEIGHBOUR: 'it returns false'. Refute it at one input. -/
def rqEnoughWrong : ChangeSpec := { name := "rqEnough", fn := fun _ => fun
  | [d1, d2] => { results := [.lit (.bool false)], args := [d1, d2] }
  | _ => none }
def RqEnoughWrongFalsely : Prop := rqEnoughRow.holds Tryd.pinned (OpenSpec.ofChange rqEnoughWrong)

/-- 'rilllaw04.RqRound': WHATEVER THE INPUT: true; the input reads as it did. -/
def rqRoundSpec : ChangeSpec := { name := "rqRound", fn := fun _ => fun
  | [d1, d2] => { results := [.lit (.bool true)], args := [d1, d2] }
  | _ => none }
def rqRoundRow : OpenClaim := { program := "ytkihgidhpggcfaadoor", sum := "b6892780135627601533b232ac7fee63bbe5b2a4ce1747d16280da776040d64e", func := "rill/rilllaw04.RqRound", spec := "rqRound", unfollowed := true, recurses := true, named := ["rill/tuple.bounds"], apart := false, laid := [("rill/tuple.bounds", laid_rill_tuple_bounds)] }
def RqRoundSaid : Prop := rqRoundRow.holds Tryd.pinned (OpenSpec.ofChange rqRoundSpec)

/-- ITS FALSE NEIGHBOUR: 'it returns false'. Refute it at one input. -/
def rqRoundWrong : ChangeSpec := { name := "rqRound", fn := fun _ => fun
  | [d1, d2] => { results := [.lit (.bool false)], args := [d1, d2] }
  | _ => none }
def RqRoundWrongFalsely : Prop := rqRoundRow.holds Tryd.pinned (OpenSpec.ofChange rqRoundWrong)

/-- 'rilllaw04.RqSource': WHATEVER THE INPUT: true; the input reads as it did. -/
def rqSourceSpec : ChangeSpec := { name := "rqSource", fn := fun _ => fun
  | [d1, d2, d3] => { results := [.lit (.bool true)], args := [d1, d2, d3] }
  | _ => none }
def rqSourceRow : OpenClaim := { program := "ytkihgidhpggcfaadoor", sum := "b6892780135627601533b232ac7fee63bbe5b2a4ce1747d16280da776040d64e", func := "rill/rilllaw04.RqSource", spec := "rqSource", unfollowed := true, recurses := true, named := ["rill/tuple.bounds"], apart := false, laid := [("rill/tuple.bounds", laid_rill_tuple_bounds)] }
def RqSourceSaid : Prop := rqSourceRow.holds Tryd.pinned (OpenSpec.ofChange rqSourceSpec)

/-- ITS FALSE NEIGHBOUR: 'it returns false'. Refute it at one input. -/
def rqSourceWrong : ChangeSpec := { name := "rqSource", fn := fun _ => fun
  | [d1, d2, d3] => { results := [.lit (.bool false)], args := [d1, d2, d3] }
  | _ => none }
def RqSourceWrongFalsely : Prop := rqSourceRow.holds Tryd.pinned (OpenSpec.ofChange rqSourceWrong)

/-- 'rilllaw04.RqLinear': WHATEVER THE INPUT: true; the input reads as it did. -/
def rqLinearSpec : ChangeSpec := { name := "rqLinear", fn := fun _ => fun
  | [d1, d2, d3, d4] => { results := [.lit (.bool true)], args := [d1, d2, d3, d4] }
  | _ => none }
def rqLinearRow : OpenClaim := { program := "ytkihgidhpggcfaadoor", sum := "b6892780135627601533b232ac7fee63bbe5b2a4ce1747d16280da776040d64e", func := "rill/rilllaw04.RqLinear", spec := "rqLinear", unfollowed := true, recurses := true, named := ["rill/tuple.bounds"], apart := false, laid := [("rill/tuple.bounds", laid_rill_tuple_bounds)] }
def RqLinearSaid : Prop := rqLinearRow.holds Tryd.pinned (OpenSpec.ofChange rqLinearSpec)

/-- ITS FALSE NEIGHBOUR: 'it returns false'. Refute it at one input. -/
def rqLinearWrong : ChangeSpec := { name := "rqLinear", fn := fun _ => fun
  | [d1, d2, d3, d4] => { results := [.lit (.bool false)], args := [d1, d2, d3, d4] }
  | _ => none }
def RqLinearWrongFalsely : Prop := rqLinearRow.holds Tryd.pinned (OpenSpec.ofChange rqLinearWrong)

/-- 'rilllaw04.RqInner': WHATEVER THE INPUT: true; the input reads as it did. -/
def rqInnerSpec : ChangeSpec := { name := "rqInner", fn := fun _ => fun
  | [d1, d2] => { results := [.lit (.bool true)], args := [d1, d2] }
  | _ => none }
def rqInnerRow : OpenClaim := { program := "ytkihgidhpggcfaadoor", sum := "b6892780135627601533b232ac7fee63bbe5b2a4ce1747d16280da776040d64e", func := "rill/rilllaw04.RqInner", spec := "rqInner", unfollowed := true, recurses := true, named := ["rill/tuple.bounds"], apart := false, laid := [("rill/tuple.bounds", laid_rill_tuple_bounds)] }
def RqInnerSaid : Prop := rqInnerRow.holds Tryd.pinned (OpenSpec.ofChange rqInnerSpec)

/-- ITS FALSE NEIGHBOUR: 'it returns false'. Refute it at one input. -/
def rqInnerWrong : ChangeSpec := { name := "rqInner", fn := fun _ => fun
  | [d1, d2] => { results := [.lit (.bool false)], args := [d1, d2] }
  | _ => none }
def RqInnerWrongFalsely : Prop := rqInnerRow.holds Tryd.pinned (OpenSpec.ofChange rqInnerWrong)

/-- 'rilllaw04.RqSpoilt': WHATEVER THE INPUT: true; the input reads as it did. -/
def rqSpoiltSpec : ChangeSpec := { name := "rqSpoilt", fn := fun _ => fun
  | [d1, d2, d3, d4, d5] => { results := [.lit (.bool true)], args := [d1, d2, d3, d4, d5] }
  | _ => none }
def rqSpoiltRow : OpenClaim := { program := "ytkihgidhpggcfaadoor", sum := "b6892780135627601533b232ac7fee63bbe5b2a4ce1747d16280da776040d64e", func := "rill/rilllaw04.RqSpoilt", spec := "rqSpoilt", unfollowed := true, recurses := true, named := ["rill/tuple.bounds"], apart := false, laid := [("rill/tuple.bounds", laid_rill_tuple_bounds)] }
def RqSpoiltSaid : Prop := rqSpoiltRow.holds Tryd.pinned (OpenSpec.ofChange rqSpoiltSpec)

/-- ITS FALSE NEIGHBOUR: 'it returns false'. Refute it at one input. -/
def rqSpoiltWrong : ChangeSpec := { name := "rqSpoilt", fn := fun _ => fun
  | [d1, d2, d3, d4, d5] => { results := [.lit (.bool false)], args := [d1, d2, d3, d4, d5] }
  | _ => none }
def RqSpoiltWrongFalsely : Prop := rqSpoiltRow.holds Tryd.pinned (OpenSpec.ofChange rqSpoiltWrong)

/-- 'rilllaw04.RqMore': WHATEVER THE INPUT: true; the input reads as it did. -/
def rqMoreSpec : ChangeSpec := { name := "rqMore", fn := fun _ => fun
  | [d1, d2, d3] => { results := [.lit (.bool true)], args := [d1, d2, d3] }
  | _ => none }
def rqMoreRow : OpenClaim := { program := "ytkihgidhpggcfaadoor", sum := "b6892780135627601533b232ac7fee63bbe5b2a4ce1747d16280da776040d64e", func := "rill/rilllaw04.RqMore", spec := "rqMore", unfollowed := true, recurses := true, named := ["rill/tuple.bounds"], apart := false, laid := [("rill/tuple.bounds", laid_rill_tuple_bounds)] }
def RqMoreSaid : Prop := rqMoreRow.holds Tryd.pinned (OpenSpec.ofChange rqMoreSpec)

/-- ITS FALSE NEIGHBOUR: 'it returns false'. Refute it at one input. -/
def rqMoreWrong : ChangeSpec := { name := "rqMore", fn := fun _ => fun
  | [d1, d2, d3] => { results := [.lit (.bool false)], args := [d1, d2, d3] }
  | _ => none }
def RqMoreWrongFalsely : Prop := rqMoreRow.holds Tryd.pinned (OpenSpec.ofChange rqMoreWrong)

/-- 'rilllaw04.RqPadded': WHATEVER THE INPUT: true; the input reads as it did. -/
def rqPaddedSpec : ChangeSpec := { name := "rqPadded", fn := fun _ => fun
  | [d1, d2] => { results := [.lit (.bool true)], args := [d1, d2] }
  | _ => none }
def rqPaddedRow : OpenClaim := { program := "ytkihgidhpggcfaadoor", sum := "b6892780135627601533b232ac7fee63bbe5b2a4ce1747d16280da776040d64e", func := "rill/rilllaw04.RqPadded", spec := "rqPadded", unfollowed := true, recurses := true, named := ["rill/tuple.bounds"], apart := false, laid := [("rill/tuple.bounds", laid_rill_tuple_bounds)] }
def RqPaddedSaid : Prop := rqPaddedRow.holds Tryd.pinned (OpenSpec.ofChange rqPaddedSpec)

/-- ITS FALSE NEIGHBOUR: 'it returns false'. Refute it at one input. -/
def rqPaddedWrong : ChangeSpec := { name := "rqPadded", fn := fun _ => fun
  | [d1, d2] => { results := [.lit (.bool false)], args := [d1, d2] }
  | _ => none }
def RqPaddedWrongFalsely : Prop := rqPaddedRow.holds Tryd.pinned (OpenSpec.ofChange rqPaddedWrong)

/- THE SECOND FORM. 'bulk': how many values and letters a reading holds, each counted each time it is reached (what is shared counts as often as it is met; a slice's spare places count too). A statement '..UptoSaid' is the law's where the arguments, and the package variables that the reading takes, are together of bulk at most 1048576: NARROWER than '..Said'. Prove '..Said' where nothing that the law and all that it calls make is longer than what came in: it says more and counts as full. Else prove '..UptoSaid'. A law counts once. -/
mutual
def uptoBulk {H : Type} : DataW H → Nat
  | .lit (.string bytes) => bytes.length + 1
  | .lit _ => 1
  | .nil => 1
  | .ptr d => uptoBulk d + 1
  | .slice elems spare => uptoBulkAll elems + uptoBulkAll spare + 1
  | .agg parts => uptoBulkAll parts + 1
  | .iface _ d => uptoBulk d + 1
  | .map entries => uptoBulkEntries entries + 1
  | .held _ => 1
def uptoBulkAll {H : Type} : List (DataW H) → Nat
  | [] => 0
  | d :: r => uptoBulk d + uptoBulkAll r
def uptoBulkEntries {H : Type} : List (Lit × DataW H) → Nat
  | [] => 0
  | x :: r => uptoBulkEntry x + uptoBulkEntries r
def uptoBulkEntry {H : Type} : Lit × DataW H → Nat
  | (.string bytes, d) => bytes.length + uptoBulk d + 1
  | (_, d) => uptoBulk d + 1
 end
def uptoSmall : (H : Type) → List (DataW H) → Bool := fun _ ds => decide (uptoBulkAll ds ≤ 1048576)
def OpenSpec.upto (s : _root_.Go.ChangeSpec) : _root_.Go.OpenSpec := { _root_.Go.OpenSpec.ofChange s with cond := some uptoSmall }

/-- 'rilllaw04.RqRows', WHERE WHAT IT READS IS OF BULK AT MOST 1048576: true; the input reads as it did. -/
def rqRowsUptoRow : OpenClaim := { program := "ytkihgidhpggcfaadoor", sum := "b6892780135627601533b232ac7fee63bbe5b2a4ce1747d16280da776040d64e", func := "rill/rilllaw04.RqRows", spec := "rqRows", unfollowed := true, recurses := true, named := ["rill/tuple.bounds"], apart := false, laid := [("rill/tuple.bounds", laid_rill_tuple_bounds)], narrowed := true }
def RqRowsUptoSaid : Prop := rqRowsUptoRow.holds Tryd.pinned (OpenSpec.upto rqRowsSpec)

/-- 'rilllaw04.RqEncodes', WHERE WHAT IT READS IS OF BULK AT MOST 1048576: true; the input reads as it did. -/
def rqEncodesUptoRow : OpenClaim := { program := "ytkihgidhpggcfaadoor", sum := "b6892780135627601533b232ac7fee63bbe5b2a4ce1747d16280da776040d64e", func := "rill/rilllaw04.RqEncodes", spec := "rqEncodes", unfollowed := true, recurses := true, named := ["rill/tuple.bounds"], apart := false, laid := [("rill/tuple.bounds", laid_rill_tuple_bounds)], narrowed := true }
def RqEncodesUptoSaid : Prop := rqEncodesUptoRow.holds Tryd.pinned (OpenSpec.upto rqEncodesSpec)

/-- 'rilllaw04.RqDecodes', WHERE WHAT IT READS IS OF BULK AT MOST 1048576: true; the input reads as it did. -/
def rqDecodesUptoRow : OpenClaim := { program := "ytkihgidhpggcfaadoor", sum := "b6892780135627601533b232ac7fee63bbe5b2a4ce1747d16280da776040d64e", func := "rill/rilllaw04.RqDecodes", spec := "rqDecodes", unfollowed := true, recurses := true, named := ["rill/tuple.bounds"], apart := false, laid := [("rill/tuple.bounds", laid_rill_tuple_bounds)], narrowed := true }
def RqDecodesUptoSaid : Prop := rqDecodesUptoRow.holds Tryd.pinned (OpenSpec.upto rqDecodesSpec)

/-- 'rilllaw04.RqEnough', WHERE WHAT IT READS IS OF BULK AT MOST 1048576: true; the input reads as it did. -/
def rqEnoughUptoRow : OpenClaim := { program := "ytkihgidhpggcfaadoor", sum := "b6892780135627601533b232ac7fee63bbe5b2a4ce1747d16280da776040d64e", func := "rill/rilllaw04.RqEnough", spec := "rqEnough", unfollowed := true, recurses := true, named := ["rill/tuple.bounds"], apart := false, laid := [("rill/tuple.bounds", laid_rill_tuple_bounds)], narrowed := true }
def RqEnoughUptoSaid : Prop := rqEnoughUptoRow.holds Tryd.pinned (OpenSpec.upto rqEnoughSpec)

/-- 'rilllaw04.RqRound', WHERE WHAT IT READS IS OF BULK AT MOST 1048576: true; the input reads as it did. -/
def rqRoundUptoRow : OpenClaim := { program := "ytkihgidhpggcfaadoor", sum := "b6892780135627601533b232ac7fee63bbe5b2a4ce1747d16280da776040d64e", func := "rill/rilllaw04.RqRound", spec := "rqRound", unfollowed := true, recurses := true, named := ["rill/tuple.bounds"], apart := false, laid := [("rill/tuple.bounds", laid_rill_tuple_bounds)], narrowed := true }
def RqRoundUptoSaid : Prop := rqRoundUptoRow.holds Tryd.pinned (OpenSpec.upto rqRoundSpec)

/-- 'rilllaw04.RqSource', WHERE WHAT IT READS IS OF BULK AT MOST 1048576: true; the input reads as it did. -/
def rqSourceUptoRow : OpenClaim := { program := "ytkihgidhpggcfaadoor", sum := "b6892780135627601533b232ac7fee63bbe5b2a4ce1747d16280da776040d64e", func := "rill/rilllaw04.RqSource", spec := "rqSource", unfollowed := true, recurses := true, named := ["rill/tuple.bounds"], apart := false, laid := [("rill/tuple.bounds", laid_rill_tuple_bounds)], narrowed := true }
def RqSourceUptoSaid : Prop := rqSourceUptoRow.holds Tryd.pinned (OpenSpec.upto rqSourceSpec)

/-- 'rilllaw04.RqLinear', WHERE WHAT IT READS IS OF BULK AT MOST 1048576: true; the input reads as it did. -/
def rqLinearUptoRow : OpenClaim := { program := "ytkihgidhpggcfaadoor", sum := "b6892780135627601533b232ac7fee63bbe5b2a4ce1747d16280da776040d64e", func := "rill/rilllaw04.RqLinear", spec := "rqLinear", unfollowed := true, recurses := true, named := ["rill/tuple.bounds"], apart := false, laid := [("rill/tuple.bounds", laid_rill_tuple_bounds)], narrowed := true }
def RqLinearUptoSaid : Prop := rqLinearUptoRow.holds Tryd.pinned (OpenSpec.upto rqLinearSpec)

/-- 'rilllaw04.RqInner', WHERE WHAT IT READS IS OF BULK AT MOST 1048576: true; the input reads as it did. -/
def rqInnerUptoRow : OpenClaim := { program := "ytkihgidhpggcfaadoor", sum := "b6892780135627601533b232ac7fee63bbe5b2a4ce1747d16280da776040d64e", func := "rill/rilllaw04.RqInner", spec := "rqInner", unfollowed := true, recurses := true, named := ["rill/tuple.bounds"], apart := false, laid := [("rill/tuple.bounds", laid_rill_tuple_bounds)], narrowed := true }
def RqInnerUptoSaid : Prop := rqInnerUptoRow.holds Tryd.pinned (OpenSpec.upto rqInnerSpec)

/-- 'rilllaw04.RqSpoilt', WHERE WHAT IT READS IS OF BULK AT MOST 1048576: true; the input reads as it did. -/
def rqSpoiltUptoRow : OpenClaim := { program := "ytkihgidhpggcfaadoor", sum := "b6892780135627601533b232ac7fee63bbe5b2a4ce1747d16280da776040d64e", func := "rill/rilllaw04.RqSpoilt", spec := "rqSpoilt", unfollowed := true, recurses := true, named := ["rill/tuple.bounds"], apart := false, laid := [("rill/tuple.bounds", laid_rill_tuple_bounds)], narrowed := true }
def RqSpoiltUptoSaid : Prop := rqSpoiltUptoRow.holds Tryd.pinned (OpenSpec.upto rqSpoiltSpec)

/-- 'rilllaw04.RqMore', WHERE WHAT IT READS IS OF BULK AT MOST 1048576: true; the input reads as it did. -/
def rqMoreUptoRow : OpenClaim := { program := "ytkihgidhpggcfaadoor", sum := "b6892780135627601533b232ac7fee63bbe5b2a4ce1747d16280da776040d64e", func := "rill/rilllaw04.RqMore", spec := "rqMore", unfollowed := true, recurses := true, named := ["rill/tuple.bounds"], apart := false, laid := [("rill/tuple.bounds", laid_rill_tuple_bounds)], narrowed := true }
def RqMoreUptoSaid : Prop := rqMoreUptoRow.holds Tryd.pinned (OpenSpec.upto rqMoreSpec)

/-- 'rilllaw04.RqPadded', WHERE WHAT IT READS IS OF BULK AT MOST 1048576: true; the input reads as it did. -/
def rqPaddedUptoRow : OpenClaim := { program := "ytkihgidhpggcfaadoor", sum := "b6892780135627601533b232ac7fee63bbe5b2a4ce1747d16280da776040d64e", func := "rill/rilllaw04.RqPadded", spec := "rqPadded", unfollowed := true, recurses := true, named := ["rill/tuple.bounds"], apart := false, laid := [("rill/tuple.bounds", laid_rill_tuple_bounds)], narrowed := true }
def RqPaddedUptoSaid : Prop := rqPaddedUptoRow.holds Tryd.pinned (OpenSpec.upto rqPaddedSpec)

end Rows
end Go.Proofs.YtkihgidhpggcfaaDoor
