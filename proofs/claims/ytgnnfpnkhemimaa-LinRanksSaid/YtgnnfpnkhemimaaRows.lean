/-
  No cell of these rows narrows 'for every input' (looked for: loops, veiled, ifaces, maps, wideKeys, modest, calm, conditions, laid).
  DERIVED. THE GIVEN ROWS OF THIS SEAT. 9 by the template 'for every input the law returns true; each argument reads behind the call as it read before'; 0 by the template 'total and deterministic' (their statements: YtgnnfpnkhemimaaTotals.lean).
  GIVEN WITH THE SEED: the statements are not yours to turn. If you find one false, say at which input.
  Laid BY PROGRAM, IN A SANDBOX (cutbox-rows.mjs): the forced cells as the released guide's own fill.sh prints them over the translation 6374a9210c312efb… (all of the seat's roots in one cut). By AI agents, Wed Nov 11 2026. No macro, syntax, notation, axiom, sorry.
-/
import Derived.Test.YtgnnfpnkhemimaaChecked
import GoSem.Claim
import GoSem.ClaimJoined
import GoSem.ClaimMapViews
import Derived.JoinedTies
import Derived.KernelRfl
namespace Go.Proofs.Ytgnnfpnkhemimaa
/- THE CELL 'sum', in the pinned program and in every row, IS THE sha256 OF THE DUMP (.gsa) THAT YtgnnfpnkhemimaaProg.lean LOADS. Nothing in Lean hashes anything: it is a label: what it is worth is what the hold of that sum in a sandbox is worth. -/
noncomputable def Try.pinned : Pinned := { name := "ytgnnfpnkhemimaa", sum := "6374a9210c312efb11c899da3008080c950d6fbd9961b0aefca846940ae83cc2", checked := Try.checked }
namespace Rows
def none {H : Type} : Left H := { results := [], args := [] }

/-- 'rilllaw02.LinRanks': WHATEVER THE INPUT: true; the input reads as it did. -/
def linRanksSpec : ChangeSpec := { name := "linRanks", fn := fun _ => fun
  | [d1, d2] => { results := [.lit (.bool true)], args := [d1, d2] }
  | _ => none }
def linRanksRow : OpenClaim := { program := "ytgnnfpnkhemimaa", sum := "6374a9210c312efb11c899da3008080c950d6fbd9961b0aefca846940ae83cc2", func := "rill/rilllaw02.LinRanks", spec := "linRanks", unfollowed := true, recurses := true, apart := false }
def LinRanksSaid : Prop := linRanksRow.holds Try.pinned (OpenSpec.ofChange linRanksSpec)

/-- ITS FALSE NEIGHBOUR: 'it returns false'. Refute it at one input. -/
def linRanksWrong : ChangeSpec := { name := "linRanks", fn := fun _ => fun
  | [d1, d2] => { results := [.lit (.bool false)], args := [d1, d2] }
  | _ => none }
def LinRanksWrongFalsely : Prop := linRanksRow.holds Try.pinned (OpenSpec.ofChange linRanksWrong)

/-- 'rilllaw02.LinSolves': WHATEVER THE INPUT: true; the input reads as it did. -/
def linSolvesSpec : ChangeSpec := { name := "linSolves", fn := fun _ => fun
  | [d1, d2, d3] => { results := [.lit (.bool true)], args := [d1, d2, d3] }
  | _ => none }
def linSolvesRow : OpenClaim := { program := "ytgnnfpnkhemimaa", sum := "6374a9210c312efb11c899da3008080c950d6fbd9961b0aefca846940ae83cc2", func := "rill/rilllaw02.LinSolves", spec := "linSolves", unfollowed := true, recurses := true, apart := false }
def LinSolvesSaid : Prop := linSolvesRow.holds Try.pinned (OpenSpec.ofChange linSolvesSpec)

/-- ITS FALSE NEIGHBOUR: 'it returns false'. Refute it at one input. -/
def linSolvesWrong : ChangeSpec := { name := "linSolves", fn := fun _ => fun
  | [d1, d2, d3] => { results := [.lit (.bool false)], args := [d1, d2, d3] }
  | _ => none }
def LinSolvesWrongFalsely : Prop := linSolvesRow.holds Try.pinned (OpenSpec.ofChange linSolvesWrong)

/-- 'rilllaw02.LinApplies': WHATEVER THE INPUT: true; the input reads as it did. -/
def linAppliesSpec : ChangeSpec := { name := "linApplies", fn := fun _ => fun
  | [d1, d2, d3] => { results := [.lit (.bool true)], args := [d1, d2, d3] }
  | _ => none }
def linAppliesRow : OpenClaim := { program := "ytgnnfpnkhemimaa", sum := "6374a9210c312efb11c899da3008080c950d6fbd9961b0aefca846940ae83cc2", func := "rill/rilllaw02.LinApplies", spec := "linApplies", unfollowed := true, recurses := true, apart := false }
def LinAppliesSaid : Prop := linAppliesRow.holds Try.pinned (OpenSpec.ofChange linAppliesSpec)

/-- ITS FALSE NEIGHBOUR: 'it returns false'. Refute it at one input. -/
def linAppliesWrong : ChangeSpec := { name := "linApplies", fn := fun _ => fun
  | [d1, d2, d3] => { results := [.lit (.bool false)], args := [d1, d2, d3] }
  | _ => none }
def LinAppliesWrongFalsely : Prop := linAppliesRow.holds Try.pinned (OpenSpec.ofChange linAppliesWrong)

/-- 'rilllaw02.LinBack': WHATEVER THE INPUT: true; the input reads as it did. -/
def linBackSpec : ChangeSpec := { name := "linBack", fn := fun _ => fun
  | [d1, d2, d3] => { results := [.lit (.bool true)], args := [d1, d2, d3] }
  | _ => none }
def linBackRow : OpenClaim := { program := "ytgnnfpnkhemimaa", sum := "6374a9210c312efb11c899da3008080c950d6fbd9961b0aefca846940ae83cc2", func := "rill/rilllaw02.LinBack", spec := "linBack", unfollowed := true, recurses := true, apart := false }
def LinBackSaid : Prop := linBackRow.holds Try.pinned (OpenSpec.ofChange linBackSpec)

/-- ITS FALSE NEIGHBOUR: 'it returns false'. Refute it at one input. -/
def linBackWrong : ChangeSpec := { name := "linBack", fn := fun _ => fun
  | [d1, d2, d3] => { results := [.lit (.bool false)], args := [d1, d2, d3] }
  | _ => none }
def LinBackWrongFalsely : Prop := linBackRow.holds Try.pinned (OpenSpec.ofChange linBackWrong)

/-- 'rilllaw02.LinTold': WHATEVER THE INPUT: true; the input reads as it did. -/
def linToldSpec : ChangeSpec := { name := "linTold", fn := fun _ => fun
  | [d1, d2, d3] => { results := [.lit (.bool true)], args := [d1, d2, d3] }
  | _ => none }
def linToldRow : OpenClaim := { program := "ytgnnfpnkhemimaa", sum := "6374a9210c312efb11c899da3008080c950d6fbd9961b0aefca846940ae83cc2", func := "rill/rilllaw02.LinTold", spec := "linTold", unfollowed := true, recurses := true, apart := false }
def LinToldSaid : Prop := linToldRow.holds Try.pinned (OpenSpec.ofChange linToldSpec)

/-- ITS FALSE NEIGHBOUR: 'it returns false'. Refute it at one input. -/
def linToldWrong : ChangeSpec := { name := "linTold", fn := fun _ => fun
  | [d1, d2, d3] => { results := [.lit (.bool false)], args := [d1, d2, d3] }
  | _ => none }
def LinToldWrongFalsely : Prop := linToldRow.holds Try.pinned (OpenSpec.ofChange linToldWrong)

/-- 'rilllaw02.LinOrder': WHATEVER THE INPUT: true; the input reads as it did. -/
def linOrderSpec : ChangeSpec := { name := "linOrder", fn := fun _ => fun
  | [d1, d2, d3, d4] => { results := [.lit (.bool true)], args := [d1, d2, d3, d4] }
  | _ => none }
def linOrderRow : OpenClaim := { program := "ytgnnfpnkhemimaa", sum := "6374a9210c312efb11c899da3008080c950d6fbd9961b0aefca846940ae83cc2", func := "rill/rilllaw02.LinOrder", spec := "linOrder", unfollowed := true, recurses := true, apart := false }
def LinOrderSaid : Prop := linOrderRow.holds Try.pinned (OpenSpec.ofChange linOrderSpec)

/-- ITS FALSE NEIGHBOUR: 'it returns false'. Refute it at one input. -/
def linOrderWrong : ChangeSpec := { name := "linOrder", fn := fun _ => fun
  | [d1, d2, d3, d4] => { results := [.lit (.bool false)], args := [d1, d2, d3, d4] }
  | _ => none }
def LinOrderWrongFalsely : Prop := linOrderRow.holds Try.pinned (OpenSpec.ofChange linOrderWrong)

/-- 'rilllaw02.LinMore': WHATEVER THE INPUT: true; the input reads as it did. -/
def linMoreSpec : ChangeSpec := { name := "linMore", fn := fun _ => fun
  | [d1, d2, d3, d4] => { results := [.lit (.bool true)], args := [d1, d2, d3, d4] }
  | _ => none }
def linMoreRow : OpenClaim := { program := "ytgnnfpnkhemimaa", sum := "6374a9210c312efb11c899da3008080c950d6fbd9961b0aefca846940ae83cc2", func := "rill/rilllaw02.LinMore", spec := "linMore", unfollowed := true, recurses := true, apart := false }
def LinMoreSaid : Prop := linMoreRow.holds Try.pinned (OpenSpec.ofChange linMoreSpec)

/-- ITS FALSE NEIGHBOUR: 'it returns false'. Refute it at one input. -/
def linMoreWrong : ChangeSpec := { name := "linMore", fn := fun _ => fun
  | [d1, d2, d3, d4] => { results := [.lit (.bool false)], args := [d1, d2, d3, d4] }
  | _ => none }
def LinMoreWrongFalsely : Prop := linMoreRow.holds Try.pinned (OpenSpec.ofChange linMoreWrong)

/-- 'rilllaw02.LinGrows': WHATEVER THE INPUT: true; the input reads as it did. -/
def linGrowsSpec : ChangeSpec := { name := "linGrows", fn := fun _ => fun
  | [d1, d2, d3] => { results := [.lit (.bool true)], args := [d1, d2, d3] }
  | _ => none }
def linGrowsRow : OpenClaim := { program := "ytgnnfpnkhemimaa", sum := "6374a9210c312efb11c899da3008080c950d6fbd9961b0aefca846940ae83cc2", func := "rill/rilllaw02.LinGrows", spec := "linGrows", unfollowed := true, recurses := true, apart := false }
def LinGrowsSaid : Prop := linGrowsRow.holds Try.pinned (OpenSpec.ofChange linGrowsSpec)

/-- ITS FALSE NEIGHBOUR: 'it returns false'. Refute it at one input. -/
def linGrowsWrong : ChangeSpec := { name := "linGrows", fn := fun _ => fun
  | [d1, d2, d3] => { results := [.lit (.bool false)], args := [d1, d2, d3] }
  | _ => none }
def LinGrowsWrongFalsely : Prop := linGrowsRow.holds Try.pinned (OpenSpec.ofChange linGrowsWrong)

/-- 'rilllaw02.LinLinear': WHATEVER THE INPUT: true; the input reads as it did. -/
def linLinearSpec : ChangeSpec := { name := "linLinear", fn := fun _ => fun
  | [d1, d2, d3, d4] => { results := [.lit (.bool true)], args := [d1, d2, d3, d4] }
  | _ => none }
def linLinearRow : OpenClaim := { program := "ytgnnfpnkhemimaa", sum := "6374a9210c312efb11c899da3008080c950d6fbd9961b0aefca846940ae83cc2", func := "rill/rilllaw02.LinLinear", spec := "linLinear", unfollowed := true, recurses := true, apart := false }
def LinLinearSaid : Prop := linLinearRow.holds Try.pinned (OpenSpec.ofChange linLinearSpec)

/-- ITS FALSE NEIGHBOUR: 'it returns false'. Refute it at one input. -/
def linLinearWrong : ChangeSpec := { name := "linLinear", fn := fun _ => fun
  | [d1, d2, d3, d4] => { results := [.lit (.bool false)], args := [d1, d2, d3, d4] }
  | _ => none }
def LinLinearWrongFalsely : Prop := linLinearRow.holds Try.pinned (OpenSpec.ofChange linLinearWrong)

/- THE SECOND FORM. 'bulk': how many values and letters a reading holds, each counted each time it is reached (what is shared counts as often as it is met; a slice's spare places count too). A statement '..UptoSaid' is the law's where the arguments, and the package variables that the reading takes, are together of bulk at most 1048576: NARROWER than '..Said'. Prove '..Said' where nothing that the law and all that it calls make is longer than what came in: it says more and counts as full. Else prove '..UptoSaid'. A law counts once. -/
mutual
def uptoBulk {H : Type} : DataW H → Nat
  | .lit (.string bytes) => bytes.length + 1
  | .lit _ => 1
  | .nil => 1
  | .ptr d => uptoBulk d + 1
  | .slice elems spare => uptoBulkAll elems + uptoBulkAll spare + 1
  | .agg parts => uptoBulkAll parts + 1
  | .iface _ d => uptoBulk d + 1
  | .map entries => uptoBulkEntries entries + 1
  | .held _ => 1
def uptoBulkAll {H : Type} : List (DataW H) → Nat
  | [] => 0
  | d :: r => uptoBulk d + uptoBulkAll r
def uptoBulkEntries {H : Type} : List (Lit × DataW H) → Nat
  | [] => 0
  | x :: r => uptoBulkEntry x + uptoBulkEntries r
def uptoBulkEntry {H : Type} : Lit × DataW H → Nat
  | (.string bytes, d) => bytes.length + uptoBulk d + 1
  | (_, d) => uptoBulk d + 1
 end
def uptoSmall : (H : Type) → List (DataW H) → Bool := fun _ ds => decide (uptoBulkAll ds ≤ 1048576)
def OpenSpec.upto (s : _root_.Go.ChangeSpec) : _root_.Go.OpenSpec := { _root_.Go.OpenSpec.ofChange s with cond := some uptoSmall }

/-- 'rilllaw02.LinRanks', WHERE WHAT IT READS IS OF BULK AT MOST 1048576: true; the input reads as it did. -/
def linRanksUptoRow : OpenClaim := { program := "ytgnnfpnkhemimaa", sum := "6374a9210c312efb11c899da3008080c950d6fbd9961b0aefca846940ae83cc2", func := "rill/rilllaw02.LinRanks", spec := "linRanks", unfollowed := true, recurses := true, apart := false, narrowed := true }
def LinRanksUptoSaid : Prop := linRanksUptoRow.holds Try.pinned (OpenSpec.upto linRanksSpec)

/-- 'rilllaw02.LinSolves', WHERE WHAT IT READS IS OF BULK AT MOST 1048576: true; the input reads as it did. -/
def linSolvesUptoRow : OpenClaim := { program := "ytgnnfpnkhemimaa", sum := "6374a9210c312efb11c899da3008080c950d6fbd9961b0aefca846940ae83cc2", func := "rill/rilllaw02.LinSolves", spec := "linSolves", unfollowed := true, recurses := true, apart := false, narrowed := true }
def LinSolvesUptoSaid : Prop := linSolvesUptoRow.holds Try.pinned (OpenSpec.upto linSolvesSpec)

/-- 'rilllaw02.LinApplies', WHERE WHAT IT READS IS OF BULK AT MOST 1048576: true; the input reads as it did. -/
def linAppliesUptoRow : OpenClaim := { program := "ytgnnfpnkhemimaa", sum := "6374a9210c312efb11c899da3008080c950d6fbd9961b0aefca846940ae83cc2", func := "rill/rilllaw02.LinApplies", spec := "linApplies", unfollowed := true, recurses := true, apart := false, narrowed := true }
def LinAppliesUptoSaid : Prop := linAppliesUptoRow.holds Try.pinned (OpenSpec.upto linAppliesSpec)

/-- 'rilllaw02.LinBack', WHERE WHAT IT READS IS OF BULK AT MOST 1048576: true; the input reads as it did. -/
def linBackUptoRow : OpenClaim := { program := "ytgnnfpnkhemimaa", sum := "6374a9210c312efb11c899da3008080c950d6fbd9961b0aefca846940ae83cc2", func := "rill/rilllaw02.LinBack", spec := "linBack", unfollowed := true, recurses := true, apart := false, narrowed := true }
def LinBackUptoSaid : Prop := linBackUptoRow.holds Try.pinned (OpenSpec.upto linBackSpec)

/-- 'rilllaw02.LinTold', WHERE WHAT IT READS IS OF BULK AT MOST 1048576: true; the input reads as it did. -/
def linToldUptoRow : OpenClaim := { program := "ytgnnfpnkhemimaa", sum := "6374a9210c312efb11c899da3008080c950d6fbd9961b0aefca846940ae83cc2", func := "rill/rilllaw02.LinTold", spec := "linTold", unfollowed := true, recurses := true, apart := false, narrowed := true }
def LinToldUptoSaid : Prop := linToldUptoRow.holds Try.pinned (OpenSpec.upto linToldSpec)

/-- 'rilllaw02.LinOrder', WHERE WHAT IT READS IS OF BULK AT MOST 1048576: true; the input reads as it did. -/
def linOrderUptoRow : OpenClaim := { program := "ytgnnfpnkhemimaa", sum := "6374a9210c312efb11c899da3008080c950d6fbd9961b0aefca846940ae83cc2", func := "rill/rilllaw02.LinOrder", spec := "linOrder", unfollowed := true, recurses := true, apart := false, narrowed := true }
def LinOrderUptoSaid : Prop := linOrderUptoRow.holds Try.pinned (OpenSpec.upto linOrderSpec)

/-- 'rilllaw02.LinMore', WHERE WHAT IT READS IS OF BULK AT MOST 1048576: true; the input reads as it did. -/
def linMoreUptoRow : OpenClaim := { program := "ytgnnfpnkhemimaa", sum := "6374a9210c312efb11c899da3008080c950d6fbd9961b0aefca846940ae83cc2", func := "rill/rilllaw02.LinMore", spec := "linMore", unfollowed := true, recurses := true, apart := false, narrowed := true }
def LinMoreUptoSaid : Prop := linMoreUptoRow.holds Try.pinned (OpenSpec.upto linMoreSpec)

/-- 'rilllaw02.LinGrows', WHERE WHAT IT READS IS OF BULK AT MOST 1048576: true; the input reads as it did. -/
def linGrowsUptoRow : OpenClaim := { program := "ytgnnfpnkhemimaa", sum := "6374a9210c312efb11c899da3008080c950d6fbd9961b0aefca846940ae83cc2", func := "rill/rilllaw02.LinGrows", spec := "linGrows", unfollowed := true, recurses := true, apart := false, narrowed := true }
def LinGrowsUptoSaid : Prop := linGrowsUptoRow.holds Try.pinned (OpenSpec.upto linGrowsSpec)

/-- 'rilllaw02.LinLinear', WHERE WHAT IT READS IS OF BULK AT MOST 1048576: true; the input reads as it did. -/
def linLinearUptoRow : OpenClaim := { program := "ytgnnfpnkhemimaa", sum := "6374a9210c312efb11c899da3008080c950d6fbd9961b0aefca846940ae83cc2", func := "rill/rilllaw02.LinLinear", spec := "linLinear", unfollowed := true, recurses := true, apart := false, narrowed := true }
def LinLinearUptoSaid : Prop := linLinearUptoRow.holds Try.pinned (OpenSpec.upto linLinearSpec)

end Rows
end Go.Proofs.Ytgnnfpnkhemimaa
