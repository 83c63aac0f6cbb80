/-
  NARROWER THAN 'FOR EVERY INPUT', by the rows' own cells (each row's printed sentence says how): MsgEncodes: laid · MsgDecodes: laid · MsgReplies: laid · MsgRound: laid · MsgOnly: laid · MsgMemory: laid.
  DERIVED. THE GIVEN ROWS OF THIS SEAT. 6 by the template 'for every input the law returns true; each argument reads behind the call as it read before'; 0 by the template 'total and deterministic' (their statements: YtopnjjehefaghaaDoorTotals.lean).
  GIVEN WITH THE SEED: the statements are not yours to turn. If you find one false, say at which input.
  Laid BY PROGRAM, IN A SANDBOX (cutbox-rows.mjs): the forced cells as the released guide's own fill.sh prints them over the translation 896260a7a6cbd6ff… (all of the seat's roots in one cut). By AI agents, Wed Nov 11 2026. No macro, syntax, notation, axiom, sorry.
-/
import Derived.Test.YtopnjjehefaghaaDoorChecked
import GoSem.Claim
import GoSem.ClaimJoined
import GoSem.ClaimMapViews
import Derived.JoinedTies
import Derived.KernelRfl
namespace Go.Proofs.YtopnjjehefaghaaDoor
/- THE CELL 'sum', in the pinned program and in every row, IS THE sha256 OF THE DUMP (.gsa) THAT YtopnjjehefaghaaDoorProg.lean LOADS. Nothing in Lean hashes anything: it is a label: what it is worth is what the hold of that sum in a sandbox is worth. -/
noncomputable def Tryd.pinned : Pinned := { name := "ytopnjjehefaghaadoor", sum := "896260a7a6cbd6ffd99e7d37040abd89778444690b9c56c73e9d0bc3ee3f607d", checked := Tryd.checked }
namespace Rows
def none {H : Type} : Left H := { results := [], args := [] }

/- WHAT THE LISTED PACKAGE-LEVEL VARIABLES READ AS WHEN THE CALL BEGINS. Each datum BY PROGRAM (the guide's laid-datum.mjs) off the statement by which the dump's own 'gosem.cut.vars' lays the variable. In a bare row this is a premise. The card (YtopnjjehefaghaaDoorCards.lean) ties it to the program's text. -/
def laid_rill_msg_names {H : Type} : DataW H := .agg [.lit (.string [97, 115, 107]), .lit (.string [116, 111, 108, 100]), .lit (.string [115, 116, 97, 103, 101]), .lit (.string [115, 116, 97, 103, 101, 100]), .lit (.string [99, 111, 109, 109, 105, 116]), .lit (.string [100, 111, 110, 101]), .lit (.string [102, 101, 116, 99, 104]), .lit (.string [115, 121, 109, 115]), .lit (.string [108, 105, 115, 116]), .lit (.string [107, 101, 121, 115])]

/-- 'rilllaw11.MsgEncodes': WHATEVER THE INPUT: true; the input reads as it did. -/
def msgEncodesSpec : ChangeSpec := { name := "msgEncodes", fn := fun _ => fun
  | [d] => { results := [.lit (.bool true)], args := [d] }
  | _ => none }
def msgEncodesRow : OpenClaim := { program := "ytopnjjehefaghaadoor", sum := "896260a7a6cbd6ffd99e7d37040abd89778444690b9c56c73e9d0bc3ee3f607d", func := "rill/rilllaw11.MsgEncodes", spec := "msgEncodes", unfollowed := true, recurses := true, named := ["rill/msg.names"], apart := false, laid := [("rill/msg.names", laid_rill_msg_names)] }
def MsgEncodesSaid : Prop := msgEncodesRow.holds Tryd.pinned (OpenSpec.ofChange msgEncodesSpec)

/-- ITS FALSE NEIGHBOUR: 'it returns false'. Refute it at one input. -/
def msgEncodesWrong : ChangeSpec := { name := "msgEncodes", fn := fun _ => fun
  | [d] => { results := [.lit (.bool false)], args := [d] }
  | _ => none }
def MsgEncodesWrongFalsely : Prop := msgEncodesRow.holds Tryd.pinned (OpenSpec.ofChange msgEncodesWrong)

/-- 'rilllaw11.MsgDecodes': WHATEVER THE INPUT: true; the input reads as it did. -/
def msgDecodesSpec : ChangeSpec := { name := "msgDecodes", fn := fun _ => fun
  | [d] => { results := [.lit (.bool true)], args := [d] }
  | _ => none }
def msgDecodesRow : OpenClaim := { program := "ytopnjjehefaghaadoor", sum := "896260a7a6cbd6ffd99e7d37040abd89778444690b9c56c73e9d0bc3ee3f607d", func := "rill/rilllaw11.MsgDecodes", spec := "msgDecodes", unfollowed := true, recurses := true, named := ["rill/msg.names"], apart := false, laid := [("rill/msg.names", laid_rill_msg_names)] }
def MsgDecodesSaid : Prop := msgDecodesRow.holds Tryd.pinned (OpenSpec.ofChange msgDecodesSpec)

/-- ITS FALSE NEIGHBOUR: 'it returns false'. Refute it at one input. -/
def msgDecodesWrong : ChangeSpec := { name := "msgDecodes", fn := fun _ => fun
  | [d] => { results := [.lit (.bool false)], args := [d] }
  | _ => none }
def MsgDecodesWrongFalsely : Prop := msgDecodesRow.holds Tryd.pinned (OpenSpec.ofChange msgDecodesWrong)

/-- 'rilllaw11.MsgReplies': WHATEVER THE INPUT: true; the input reads as it did. -/
def msgRepliesSpec : ChangeSpec := { name := "msgReplies", fn := fun _ => fun
  | [d1, d2] => { results := [.lit (.bool true)], args := [d1, d2] }
  | _ => none }
def msgRepliesRow : OpenClaim := { program := "ytopnjjehefaghaadoor", sum := "896260a7a6cbd6ffd99e7d37040abd89778444690b9c56c73e9d0bc3ee3f607d", func := "rill/rilllaw11.MsgReplies", spec := "msgReplies", unfollowed := true, recurses := true, named := ["rill/msg.names"], apart := false, laid := [("rill/msg.names", laid_rill_msg_names)] }
def MsgRepliesSaid : Prop := msgRepliesRow.holds Tryd.pinned (OpenSpec.ofChange msgRepliesSpec)

/-- ITS FALSE NEIGHBOUR: 'it returns false'. Refute it at one input. -/
def msgRepliesWrong : ChangeSpec := { name := "msgReplies", fn := fun _ => fun
  | [d1, d2] => { results := [.lit (.bool false)], args := [d1, d2] }
  | _ => none }
def MsgRepliesWrongFalsely : Prop := msgRepliesRow.holds Tryd.pinned (OpenSpec.ofChange msgRepliesWrong)

/-- 'rilllaw11.MsgRound': WHATEVER THE INPUT: true; the input reads as it did. -/
def msgRoundSpec : ChangeSpec := { name := "msgRound", fn := fun _ => fun
  | [d1, d2, d3] => { results := [.lit (.bool true)], args := [d1, d2, d3] }
  | _ => none }
def msgRoundRow : OpenClaim := { program := "ytopnjjehefaghaadoor", sum := "896260a7a6cbd6ffd99e7d37040abd89778444690b9c56c73e9d0bc3ee3f607d", func := "rill/rilllaw11.MsgRound", spec := "msgRound", unfollowed := true, recurses := true, named := ["rill/msg.names"], apart := false, laid := [("rill/msg.names", laid_rill_msg_names)] }
def MsgRoundSaid : Prop := msgRoundRow.holds Tryd.pinned (OpenSpec.ofChange msgRoundSpec)

/-- ITS FALSE NEIGHBOUR: 'it returns false'. Refute it at one input. -/
def msgRoundWrong : ChangeSpec := { name := "msgRound", fn := fun _ => fun
  | [d1, d2, d3] => { results := [.lit (.bool false)], args := [d1, d2, d3] }
  | _ => none }
def MsgRoundWrongFalsely : Prop := msgRoundRow.holds Tryd.pinned (OpenSpec.ofChange msgRoundWrong)

/-- 'rilllaw11.MsgOnly': WHATEVER THE INPUT: true; the input reads as it did. -/
def msgOnlySpec : ChangeSpec := { name := "msgOnly", fn := fun _ => fun
  | [d1, d2, d3] => { results := [.lit (.bool true)], args := [d1, d2, d3] }
  | _ => none }
def msgOnlyRow : OpenClaim := { program := "ytopnjjehefaghaadoor", sum := "896260a7a6cbd6ffd99e7d37040abd89778444690b9c56c73e9d0bc3ee3f607d", func := "rill/rilllaw11.MsgOnly", spec := "msgOnly", unfollowed := true, recurses := true, named := ["rill/msg.names"], apart := false, laid := [("rill/msg.names", laid_rill_msg_names)] }
def MsgOnlySaid : Prop := msgOnlyRow.holds Tryd.pinned (OpenSpec.ofChange msgOnlySpec)

/-- ITS FALSE NEIGHBOUR: 'it returns false'. Refute it at one input. -/
def msgOnlyWrong : ChangeSpec := { name := "msgOnly", fn := fun _ => fun
  | [d1, d2, d3] => { results := [.lit (.bool false)], args := [d1, d2, d3] }
  | _ => none }
def MsgOnlyWrongFalsely : Prop := msgOnlyRow.holds Tryd.pinned (OpenSpec.ofChange msgOnlyWrong)

/-- 'rilllaw11.MsgMemory': WHATEVER THE INPUT: true; the input reads as it did. -/
def msgMemorySpec : ChangeSpec := { name := "msgMemory", fn := fun _ => fun
  | [d] => { results := [.lit (.bool true)], args := [d] }
  | _ => none }
def msgMemoryRow : OpenClaim := { program := "ytopnjjehefaghaadoor", sum := "896260a7a6cbd6ffd99e7d37040abd89778444690b9c56c73e9d0bc3ee3f607d", func := "rill/rilllaw11.MsgMemory", spec := "msgMemory", unfollowed := true, recurses := true, named := ["rill/msg.names"], apart := false, laid := [("rill/msg.names", laid_rill_msg_names)] }
def MsgMemorySaid : Prop := msgMemoryRow.holds Tryd.pinned (OpenSpec.ofChange msgMemorySpec)

/-- ITS FALSE NEIGHBOUR: 'it returns false'. Refute it at one input. -/
def msgMemoryWrong : ChangeSpec := { name := "msgMemory", fn := fun _ => fun
  | [d] => { results := [.lit (.bool false)], args := [d] }
  | _ => none }
def MsgMemoryWrongFalsely : Prop := msgMemoryRow.holds Tryd.pinned (OpenSpec.ofChange msgMemoryWrong)

/- THE SECOND FORM. 'bulk': how many values and letters a reading holds, each counted each time it is reached (what is shared counts as often as it is met; a slice's spare places count too). A statement '..UptoSaid' is the law's where the arguments, and the package variables that the reading takes, are together of bulk at most 1048576: NARROWER than '..Said'. Prove '..Said' where nothing that the law and all that it calls make is longer than what came in: it says more and counts as full. Else prove '..UptoSaid'. A law counts once. -/
mutual
def uptoBulk {H : Type} : DataW H → Nat
  | .lit (.string bytes) => bytes.length + 1
  | .lit _ => 1
  | .nil => 1
  | .ptr d => uptoBulk d + 1
  | .slice elems spare => uptoBulkAll elems + uptoBulkAll spare + 1
  | .agg parts => uptoBulkAll parts + 1
  | .iface _ d => uptoBulk d + 1
  | .map entries => uptoBulkEntries entries + 1
  | .held _ => 1
def uptoBulkAll {H : Type} : List (DataW H) → Nat
  | [] => 0
  | d :: r => uptoBulk d + uptoBulkAll r
def uptoBulkEntries {H : Type} : List (Lit × DataW H) → Nat
  | [] => 0
  | x :: r => uptoBulkEntry x + uptoBulkEntries r
def uptoBulkEntry {H : Type} : Lit × DataW H → Nat
  | (.string bytes, d) => bytes.length + uptoBulk d + 1
  | (_, d) => uptoBulk d + 1
 end
def uptoSmall : (H : Type) → List (DataW H) → Bool := fun _ ds => decide (uptoBulkAll ds ≤ 1048576)
def OpenSpec.upto (s : _root_.Go.ChangeSpec) : _root_.Go.OpenSpec := { _root_.Go.OpenSpec.ofChange s with cond := some uptoSmall }

/-- 'rilllaw11.MsgEncodes', WHERE WHAT IT READS IS OF BULK AT MOST 1048576: true; the input reads as it did. -/
def msgEncodesUptoRow : OpenClaim := { program := "ytopnjjehefaghaadoor", sum := "896260a7a6cbd6ffd99e7d37040abd89778444690b9c56c73e9d0bc3ee3f607d", func := "rill/rilllaw11.MsgEncodes", spec := "msgEncodes", unfollowed := true, recurses := true, named := ["rill/msg.names"], apart := false, laid := [("rill/msg.names", laid_rill_msg_names)], narrowed := true }
def MsgEncodesUptoSaid : Prop := msgEncodesUptoRow.holds Tryd.pinned (OpenSpec.upto msgEncodesSpec)

/-- 'rilllaw11.MsgDecodes', WHERE WHAT IT READS IS OF BULK AT MOST 1048576: true; the input reads as it did. -/
def msgDecodesUptoRow : OpenClaim := { program := "ytopnjjehefaghaadoor", sum := "896260a7a6cbd6ffd99e7d37040abd89778444690b9c56c73e9d0bc3ee3f607d", func := "rill/rilllaw11.MsgDecodes", spec := "msgDecodes", unfollowed := true, recurses := true, named := ["rill/msg.names"], apart := false, laid := [("rill/msg.names", laid_rill_msg_names)], narrowed := true }
def MsgDecodesUptoSaid : Prop := msgDecodesUptoRow.holds Tryd.pinned (OpenSpec.upto msgDecodesSpec)

/-- 'rilllaw11.MsgReplies', WHERE WHAT IT READS IS OF BULK AT MOST 1048576: true; the input reads as it did. -/
def msgRepliesUptoRow : OpenClaim := { program := "ytopnjjehefaghaadoor", sum := "896260a7a6cbd6ffd99e7d37040abd89778444690b9c56c73e9d0bc3ee3f607d", func := "rill/rilllaw11.MsgReplies", spec := "msgReplies", unfollowed := true, recurses := true, named := ["rill/msg.names"], apart := false, laid := [("rill/msg.names", laid_rill_msg_names)], narrowed := true }
def MsgRepliesUptoSaid : Prop := msgRepliesUptoRow.holds Tryd.pinned (OpenSpec.upto msgRepliesSpec)

/-- 'rilllaw11.MsgRound', WHERE WHAT IT READS IS OF BULK AT MOST 1048576: true; the input reads as it did. -/
def msgRoundUptoRow : OpenClaim := { program := "ytopnjjehefaghaadoor", sum := "896260a7a6cbd6ffd99e7d37040abd89778444690b9c56c73e9d0bc3ee3f607d", func := "rill/rilllaw11.MsgRound", spec := "msgRound", unfollowed := true, recurses := true, named := ["rill/msg.names"], apart := false, laid := [("rill/msg.names", laid_rill_msg_names)], narrowed := true }
def MsgRoundUptoSaid : Prop := msgRoundUptoRow.holds Tryd.pinned (OpenSpec.upto msgRoundSpec)

/-- 'rilllaw11.MsgOnly', WHERE WHAT IT READS IS OF BULK AT MOST 1048576: true; the input reads as it did. -/
def msgOnlyUptoRow : OpenClaim := { program := "ytopnjjehefaghaadoor", sum := "896260a7a6cbd6ffd99e7d37040abd89778444690b9c56c73e9d0bc3ee3f607d", func := "rill/rilllaw11.MsgOnly", spec := "msgOnly", unfollowed := true, recurses := true, named := ["rill/msg.names"], apart := false, laid := [("rill/msg.names", laid_rill_msg_names)], narrowed := true }
def MsgOnlyUptoSaid : Prop := msgOnlyUptoRow.holds Tryd.pinned (OpenSpec.upto msgOnlySpec)

/-- 'rilllaw11.MsgMemory', WHERE WHAT IT READS IS OF BULK AT MOST 1048576: true; the input reads as it did. -/
def msgMemoryUptoRow : OpenClaim := { program := "ytopnjjehefaghaadoor", sum := "896260a7a6cbd6ffd99e7d37040abd89778444690b9c56c73e9d0bc3ee3f607d", func := "rill/rilllaw11.MsgMemory", spec := "msgMemory", unfollowed := true, recurses := true, named := ["rill/msg.names"], apart := false, laid := [("rill/msg.names", laid_rill_msg_names)], narrowed := true }
def MsgMemoryUptoSaid : Prop := msgMemoryUptoRow.holds Tryd.pinned (OpenSpec.upto msgMemorySpec)

end Rows
end Go.Proofs.YtopnjjehefaghaaDoor
