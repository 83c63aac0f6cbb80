/-
  No cell of these rows narrows 'for every input' (looked for: loops, veiled, ifaces, maps, wideKeys, modest, calm, conditions, laid).
  DERIVED. THE GIVEN ROWS OF THIS SEAT. 7 by the template 'for every input the law returns true; each argument reads behind the call as it read before'; 0 by the template 'total and deterministic' (their statements: YtnefcbcioemfiaaTotals.lean).
  GIVEN WITH THE SEED: the statements are not yours to turn. If you find one false, say at which input.
  Laid BY PROGRAM, IN A SANDBOX (cutbox-rows.mjs): the forced cells as the released guide's own fill.sh prints them over the translation 30ed0c45bc70ce95… (all of the seat's roots in one cut). By AI agents, Wed Nov 11 2026. No macro, syntax, notation, axiom, sorry.
-/
import Derived.Test.YtnefcbcioemfiaaChecked
import GoSem.Claim
import GoSem.ClaimJoined
import GoSem.ClaimMapViews
import Derived.JoinedTies
import Derived.KernelRfl
namespace Go.Proofs.Ytnefcbcioemfiaa
/- THE CELL 'sum', in the pinned program and in every row, IS THE sha256 OF THE DUMP (.gsa) THAT YtnefcbcioemfiaaProg.lean LOADS. Nothing in Lean hashes anything: it is a label: what it is worth is what the hold of that sum in a sandbox is worth. -/
noncomputable def Try.pinned : Pinned := { name := "ytnefcbcioemfiaa", sum := "30ed0c45bc70ce951ed82bdd9525da352fe9bac97eb567e0ebdd28ed202b1e69", checked := Try.checked }
namespace Rows
def none {H : Type} : Left H := { results := [], args := [] }

/-- 'rilllaw19.JudgeWholes': WHATEVER THE INPUT: true; the input reads as it did. -/
def judgeWholesSpec : ChangeSpec := { name := "judgeWholes", fn := fun _ => fun
  | [d1, d2] => { results := [.lit (.bool true)], args := [d1, d2] }
  | _ => none }
def judgeWholesRow : OpenClaim := { program := "ytnefcbcioemfiaa", sum := "30ed0c45bc70ce951ed82bdd9525da352fe9bac97eb567e0ebdd28ed202b1e69", func := "rill/rilllaw19.JudgeWholes", spec := "judgeWholes", unfollowed := true, recurses := true, plainKeys := false, apart := false }
def JudgeWholesSaid : Prop := judgeWholesRow.holds Try.pinned (OpenSpec.ofChange judgeWholesSpec)

/-- ITS FALSE NEIGHBOUR: 'it returns false'. Refute it at one input. -/
def judgeWholesWrong : ChangeSpec := { name := "judgeWholes", fn := fun _ => fun
  | [d1, d2] => { results := [.lit (.bool false)], args := [d1, d2] }
  | _ => none }
def JudgeWholesWrongFalsely : Prop := judgeWholesRow.holds Try.pinned (OpenSpec.ofChange judgeWholesWrong)

/-- 'rilllaw19.JudgeFits': WHATEVER THE INPUT: true; the input reads as it did. -/
def judgeFitsSpec : ChangeSpec := { name := "judgeFits", fn := fun _ => fun
  | [d1, d2, d3] => { results := [.lit (.bool true)], args := [d1, d2, d3] }
  | _ => none }
def judgeFitsRow : OpenClaim := { program := "ytnefcbcioemfiaa", sum := "30ed0c45bc70ce951ed82bdd9525da352fe9bac97eb567e0ebdd28ed202b1e69", func := "rill/rilllaw19.JudgeFits", spec := "judgeFits", unfollowed := true, recurses := true, plainKeys := false, apart := false }
def JudgeFitsSaid : Prop := judgeFitsRow.holds Try.pinned (OpenSpec.ofChange judgeFitsSpec)

/-- ITS FALSE NEIGHBOUR: 'it returns false'. Refute it at one input. -/
def judgeFitsWrong : ChangeSpec := { name := "judgeFits", fn := fun _ => fun
  | [d1, d2, d3] => { results := [.lit (.bool false)], args := [d1, d2, d3] }
  | _ => none }
def JudgeFitsWrongFalsely : Prop := judgeFitsRow.holds Try.pinned (OpenSpec.ofChange judgeFitsWrong)

/-- 'rilllaw19.JudgeOrders': WHATEVER THE INPUT: true; the input reads as it did. -/
def judgeOrdersSpec : ChangeSpec := { name := "judgeOrders", fn := fun _ => fun
  | [d1, d2, d3] => { results := [.lit (.bool true)], args := [d1, d2, d3] }
  | _ => none }
def judgeOrdersRow : OpenClaim := { program := "ytnefcbcioemfiaa", sum := "30ed0c45bc70ce951ed82bdd9525da352fe9bac97eb567e0ebdd28ed202b1e69", func := "rill/rilllaw19.JudgeOrders", spec := "judgeOrders", unfollowed := true, recurses := true, plainKeys := false, apart := false }
def JudgeOrdersSaid : Prop := judgeOrdersRow.holds Try.pinned (OpenSpec.ofChange judgeOrdersSpec)

/-- ITS FALSE NEIGHBOUR: 'it returns false'. Refute it at one input. -/
def judgeOrdersWrong : ChangeSpec := { name := "judgeOrders", fn := fun _ => fun
  | [d1, d2, d3] => { results := [.lit (.bool false)], args := [d1, d2, d3] }
  | _ => none }
def JudgeOrdersWrongFalsely : Prop := judgeOrdersRow.holds Try.pinned (OpenSpec.ofChange judgeOrdersWrong)

/-- 'rilllaw19.JudgeSerial': WHATEVER THE INPUT: true; the input reads as it did. -/
def judgeSerialSpec : ChangeSpec := { name := "judgeSerial", fn := fun _ => fun
  | [d1, d2, d3] => { results := [.lit (.bool true)], args := [d1, d2, d3] }
  | _ => none }
def judgeSerialRow : OpenClaim := { program := "ytnefcbcioemfiaa", sum := "30ed0c45bc70ce951ed82bdd9525da352fe9bac97eb567e0ebdd28ed202b1e69", func := "rill/rilllaw19.JudgeSerial", spec := "judgeSerial", unfollowed := true, recurses := true, plainKeys := false, apart := false }
def JudgeSerialSaid : Prop := judgeSerialRow.holds Try.pinned (OpenSpec.ofChange judgeSerialSpec)

/-- ITS FALSE NEIGHBOUR: 'it returns false'. Refute it at one input. -/
def judgeSerialWrong : ChangeSpec := { name := "judgeSerial", fn := fun _ => fun
  | [d1, d2, d3] => { results := [.lit (.bool false)], args := [d1, d2, d3] }
  | _ => none }
def JudgeSerialWrongFalsely : Prop := judgeSerialRow.holds Try.pinned (OpenSpec.ofChange judgeSerialWrong)

/-- 'rilllaw19.JudgeLess': WHATEVER THE INPUT: true; the input reads as it did. -/
def judgeLessSpec : ChangeSpec := { name := "judgeLess", fn := fun _ => fun
  | [d1, d2, d3, d4] => { results := [.lit (.bool true)], args := [d1, d2, d3, d4] }
  | _ => none }
def judgeLessRow : OpenClaim := { program := "ytnefcbcioemfiaa", sum := "30ed0c45bc70ce951ed82bdd9525da352fe9bac97eb567e0ebdd28ed202b1e69", func := "rill/rilllaw19.JudgeLess", spec := "judgeLess", unfollowed := true, recurses := true, plainKeys := false, apart := false }
def JudgeLessSaid : Prop := judgeLessRow.holds Try.pinned (OpenSpec.ofChange judgeLessSpec)

/-- ITS FALSE NEIGHBOUR: 'it returns false'. Refute it at one input. -/
def judgeLessWrong : ChangeSpec := { name := "judgeLess", fn := fun _ => fun
  | [d1, d2, d3, d4] => { results := [.lit (.bool false)], args := [d1, d2, d3, d4] }
  | _ => none }
def JudgeLessWrongFalsely : Prop := judgeLessRow.holds Try.pinned (OpenSpec.ofChange judgeLessWrong)

/-- 'rilllaw19.JudgeKeys': WHATEVER THE INPUT: true; the input reads as it did. -/
def judgeKeysSpec : ChangeSpec := { name := "judgeKeys", fn := fun _ => fun
  | [d] => { results := [.lit (.bool true)], args := [d] }
  | _ => none }
def judgeKeysRow : OpenClaim := { program := "ytnefcbcioemfiaa", sum := "30ed0c45bc70ce951ed82bdd9525da352fe9bac97eb567e0ebdd28ed202b1e69", func := "rill/rilllaw19.JudgeKeys", spec := "judgeKeys", unfollowed := true, recurses := true, plainKeys := false, apart := false }
def JudgeKeysSaid : Prop := judgeKeysRow.holds Try.pinned (OpenSpec.ofChange judgeKeysSpec)

/-- ITS FALSE NEIGHBOUR: 'it returns false'. Refute it at one input. -/
def judgeKeysWrong : ChangeSpec := { name := "judgeKeys", fn := fun _ => fun
  | [d] => { results := [.lit (.bool false)], args := [d] }
  | _ => none }
def JudgeKeysWrongFalsely : Prop := judgeKeysRow.holds Try.pinned (OpenSpec.ofChange judgeKeysWrong)

/-- 'rilllaw19.JudgeSwap': WHATEVER THE INPUT: true; the input reads as it did. -/
def judgeSwapSpec : ChangeSpec := { name := "judgeSwap", fn := fun _ => fun
  | [d1, d2, d3] => { results := [.lit (.bool true)], args := [d1, d2, d3] }
  | _ => none }
def judgeSwapRow : OpenClaim := { program := "ytnefcbcioemfiaa", sum := "30ed0c45bc70ce951ed82bdd9525da352fe9bac97eb567e0ebdd28ed202b1e69", func := "rill/rilllaw19.JudgeSwap", spec := "judgeSwap", unfollowed := true, recurses := true, plainKeys := false, apart := false }
def JudgeSwapSaid : Prop := judgeSwapRow.holds Try.pinned (OpenSpec.ofChange judgeSwapSpec)

/-- ITS FALSE NEIGHBOUR: 'it returns false'. Refute it at one input. -/
def judgeSwapWrong : ChangeSpec := { name := "judgeSwap", fn := fun _ => fun
  | [d1, d2, d3] => { results := [.lit (.bool false)], args := [d1, d2, d3] }
  | _ => none }
def JudgeSwapWrongFalsely : Prop := judgeSwapRow.holds Try.pinned (OpenSpec.ofChange judgeSwapWrong)

/- THE SECOND FORM. 'bulk': how many values and letters a reading holds, each counted each time it is reached (what is shared counts as often as it is met; a slice's spare places count too). A statement '..UptoSaid' is the law's where the arguments, and the package variables that the reading takes, are together of bulk at most 1048576: NARROWER than '..Said'. Prove '..Said' where nothing that the law and all that it calls make is longer than what came in: it says more and counts as full. Else prove '..UptoSaid'. A law counts once. -/
mutual
def uptoBulk {H : Type} : DataW H → Nat
  | .lit (.string bytes) => bytes.length + 1
  | .lit _ => 1
  | .nil => 1
  | .ptr d => uptoBulk d + 1
  | .slice elems spare => uptoBulkAll elems + uptoBulkAll spare + 1
  | .agg parts => uptoBulkAll parts + 1
  | .iface _ d => uptoBulk d + 1
  | .map entries => uptoBulkEntries entries + 1
  | .held _ => 1
def uptoBulkAll {H : Type} : List (DataW H) → Nat
  | [] => 0
  | d :: r => uptoBulk d + uptoBulkAll r
def uptoBulkEntries {H : Type} : List (Lit × DataW H) → Nat
  | [] => 0
  | x :: r => uptoBulkEntry x + uptoBulkEntries r
def uptoBulkEntry {H : Type} : Lit × DataW H → Nat
  | (.string bytes, d) => bytes.length + uptoBulk d + 1
  | (_, d) => uptoBulk d + 1
 end
def uptoSmall : (H : Type) → List (DataW H) → Bool := fun _ ds => decide (uptoBulkAll ds ≤ 1048576)
def OpenSpec.upto (s : _root_.Go.ChangeSpec) : _root_.Go.OpenSpec := { _root_.Go.OpenSpec.ofChange s with cond := some uptoSmall }

/-- 'rilllaw19.JudgeWholes', WHERE WHAT IT READS IS OF BULK AT MOST 1048576: true; the input reads as it did. -/
def judgeWholesUptoRow : OpenClaim := { program := "ytnefcbcioemfiaa", sum := "30ed0c45bc70ce951ed82bdd9525da352fe9bac97eb567e0ebdd28ed202b1e69", func := "rill/rilllaw19.JudgeWholes", spec := "judgeWholes", unfollowed := true, recurses := true, plainKeys := false, apart := false, narrowed := true }
def JudgeWholesUptoSaid : Prop := judgeWholesUptoRow.holds Try.pinned (OpenSpec.upto judgeWholesSpec)

/-- 'rilllaw19.JudgeFits', WHERE WHAT IT READS IS OF BULK AT MOST 1048576: true; the input reads as it did. -/
def judgeFitsUptoRow : OpenClaim := { program := "ytnefcbcioemfiaa", sum := "30ed0c45bc70ce951ed82bdd9525da352fe9bac97eb567e0ebdd28ed202b1e69", func := "rill/rilllaw19.JudgeFits", spec := "judgeFits", unfollowed := true, recurses := true, plainKeys := false, apart := false, narrowed := true }
def JudgeFitsUptoSaid : Prop := judgeFitsUptoRow.holds Try.pinned (OpenSpec.upto judgeFitsSpec)

/-- 'rilllaw19.JudgeOrders', WHERE WHAT IT READS IS OF BULK AT MOST 1048576: true; the input reads as it did. -/
def judgeOrdersUptoRow : OpenClaim := { program := "ytnefcbcioemfiaa", sum := "30ed0c45bc70ce951ed82bdd9525da352fe9bac97eb567e0ebdd28ed202b1e69", func := "rill/rilllaw19.JudgeOrders", spec := "judgeOrders", unfollowed := true, recurses := true, plainKeys := false, apart := false, narrowed := true }
def JudgeOrdersUptoSaid : Prop := judgeOrdersUptoRow.holds Try.pinned (OpenSpec.upto judgeOrdersSpec)

/-- 'rilllaw19.JudgeSerial', WHERE WHAT IT READS IS OF BULK AT MOST 1048576: true; the input reads as it did. -/
def judgeSerialUptoRow : OpenClaim := { program := "ytnefcbcioemfiaa", sum := "30ed0c45bc70ce951ed82bdd9525da352fe9bac97eb567e0ebdd28ed202b1e69", func := "rill/rilllaw19.JudgeSerial", spec := "judgeSerial", unfollowed := true, recurses := true, plainKeys := false, apart := false, narrowed := true }
def JudgeSerialUptoSaid : Prop := judgeSerialUptoRow.holds Try.pinned (OpenSpec.upto judgeSerialSpec)

/-- 'rilllaw19.JudgeLess', WHERE WHAT IT READS IS OF BULK AT MOST 1048576: true; the input reads as it did. -/
def judgeLessUptoRow : OpenClaim := { program := "ytnefcbcioemfiaa", sum := "30ed0c45bc70ce951ed82bdd9525da352fe9bac97eb567e0ebdd28ed202b1e69", func := "rill/rilllaw19.JudgeLess", spec := "judgeLess", unfollowed := true, recurses := true, plainKeys := false, apart := false, narrowed := true }
def JudgeLessUptoSaid : Prop := judgeLessUptoRow.holds Try.pinned (OpenSpec.upto judgeLessSpec)

/-- 'rilllaw19.JudgeKeys', WHERE WHAT IT READS IS OF BULK AT MOST 1048576: true; the input reads as it did. -/
def judgeKeysUptoRow : OpenClaim := { program := "ytnefcbcioemfiaa", sum := "30ed0c45bc70ce951ed82bdd9525da352fe9bac97eb567e0ebdd28ed202b1e69", func := "rill/rilllaw19.JudgeKeys", spec := "judgeKeys", unfollowed := true, recurses := true, plainKeys := false, apart := false, narrowed := true }
def JudgeKeysUptoSaid : Prop := judgeKeysUptoRow.holds Try.pinned (OpenSpec.upto judgeKeysSpec)

/-- 'rilllaw19.JudgeSwap', WHERE WHAT IT READS IS OF BULK AT MOST 1048576: true; the input reads as it did. -/
def judgeSwapUptoRow : OpenClaim := { program := "ytnefcbcioemfiaa", sum := "30ed0c45bc70ce951ed82bdd9525da352fe9bac97eb567e0ebdd28ed202b1e69", func := "rill/rilllaw19.JudgeSwap", spec := "judgeSwap", unfollowed := true, recurses := true, plainKeys := false, apart := false, narrowed := true }
def JudgeSwapUptoSaid : Prop := judgeSwapUptoRow.holds Try.pinned (OpenSpec.upto judgeSwapSpec)

end Rows
end Go.Proofs.Ytnefcbcioemfiaa
