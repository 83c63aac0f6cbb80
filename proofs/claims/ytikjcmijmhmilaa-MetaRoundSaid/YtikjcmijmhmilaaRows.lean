/-
  No cell of these rows narrows 'for every input' (looked for: loops, veiled, ifaces, maps, wideKeys, modest, calm, conditions, laid).
  DERIVED. THE GIVEN ROWS OF THIS SEAT. 5 by the template 'for every input the law returns true; each argument reads behind the call as it read before'; 0 by the template 'total and deterministic' (their statements: YtikjcmijmhmilaaTotals.lean).
  GIVEN WITH THE SEED: the statements are not yours to turn. If you find one false, say at which input.
  Laid BY PROGRAM, IN A SANDBOX (cutbox-rows.mjs): the forced cells as the released guide's own fill.sh prints them over the translation baa097d779f0a1f0… (all of the seat's roots in one cut). By AI agents, Wed Nov 11 2026. No macro, syntax, notation, axiom, sorry.
-/
import Derived.Test.YtikjcmijmhmilaaChecked
import GoSem.Claim
import GoSem.ClaimJoined
import GoSem.ClaimMapViews
import Derived.JoinedTies
import Derived.KernelRfl
namespace Go.Proofs.Ytikjcmijmhmilaa
/- THE CELL 'sum', in the pinned program and in every row, IS THE sha256 OF THE DUMP (.gsa) THAT YtikjcmijmhmilaaProg.lean LOADS. Nothing in Lean hashes anything: it is a label: what it is worth is what the hold of that sum in a sandbox is worth. -/
noncomputable def Try.pinned : Pinned := { name := "ytikjcmijmhmilaa", sum := "baa097d779f0a1f04294046e61c095b70639200a758c8b063bb5efff6991c528", checked := Try.checked }
namespace Rows
def none {H : Type} : Left H := { results := [], args := [] }

/-- 'rilllaw09.MetaTags': WHATEVER THE INPUT: true; the input reads as it did. -/
def metaTagsSpec : ChangeSpec := { name := "metaTags", fn := fun _ => fun
  | [d1, d2] => { results := [.lit (.bool true)], args := [d1, d2] }
  | _ => none }
def metaTagsRow : OpenClaim := { program := "ytikjcmijmhmilaa", sum := "baa097d779f0a1f04294046e61c095b70639200a758c8b063bb5efff6991c528", func := "rill/rilllaw09.MetaTags", spec := "metaTags", unfollowed := true, recurses := true, apart := false }
def MetaTagsSaid : Prop := metaTagsRow.holds Try.pinned (OpenSpec.ofChange metaTagsSpec)

/-- ITS FALSE NEIGHBOUR: 'it returns false'. Refute it at one input. -/
def metaTagsWrong : ChangeSpec := { name := "metaTags", fn := fun _ => fun
  | [d1, d2] => { results := [.lit (.bool false)], args := [d1, d2] }
  | _ => none }
def MetaTagsWrongFalsely : Prop := metaTagsRow.holds Try.pinned (OpenSpec.ofChange metaTagsWrong)

/-- 'rilllaw09.MetaOrder': WHATEVER THE INPUT: true; the input reads as it did. -/
def metaOrderSpec : ChangeSpec := { name := "metaOrder", fn := fun _ => fun
  | [d1, d2, d3, d4] => { results := [.lit (.bool true)], args := [d1, d2, d3, d4] }
  | _ => none }
def metaOrderRow : OpenClaim := { program := "ytikjcmijmhmilaa", sum := "baa097d779f0a1f04294046e61c095b70639200a758c8b063bb5efff6991c528", func := "rill/rilllaw09.MetaOrder", spec := "metaOrder", unfollowed := true, recurses := true, apart := false }
def MetaOrderSaid : Prop := metaOrderRow.holds Try.pinned (OpenSpec.ofChange metaOrderSpec)

/-- ITS FALSE NEIGHBOUR: 'it returns false'. Refute it at one input. -/
def metaOrderWrong : ChangeSpec := { name := "metaOrder", fn := fun _ => fun
  | [d1, d2, d3, d4] => { results := [.lit (.bool false)], args := [d1, d2, d3, d4] }
  | _ => none }
def MetaOrderWrongFalsely : Prop := metaOrderRow.holds Try.pinned (OpenSpec.ofChange metaOrderWrong)

/-- 'rilllaw09.MetaEncodes': WHATEVER THE INPUT: true; the input reads as it did. -/
def metaEncodesSpec : ChangeSpec := { name := "metaEncodes", fn := fun _ => fun
  | [d] => { results := [.lit (.bool true)], args := [d] }
  | _ => none }
def metaEncodesRow : OpenClaim := { program := "ytikjcmijmhmilaa", sum := "baa097d779f0a1f04294046e61c095b70639200a758c8b063bb5efff6991c528", func := "rill/rilllaw09.MetaEncodes", spec := "metaEncodes", unfollowed := true, recurses := true, apart := false }
def MetaEncodesSaid : Prop := metaEncodesRow.holds Try.pinned (OpenSpec.ofChange metaEncodesSpec)

/-- ITS FALSE NEIGHBOUR: 'it returns false'. Refute it at one input. -/
def metaEncodesWrong : ChangeSpec := { name := "metaEncodes", fn := fun _ => fun
  | [d] => { results := [.lit (.bool false)], args := [d] }
  | _ => none }
def MetaEncodesWrongFalsely : Prop := metaEncodesRow.holds Try.pinned (OpenSpec.ofChange metaEncodesWrong)

/-- 'rilllaw09.MetaDecodes': WHATEVER THE INPUT: true; the input reads as it did. -/
def metaDecodesSpec : ChangeSpec := { name := "metaDecodes", fn := fun _ => fun
  | [d] => { results := [.lit (.bool true)], args := [d] }
  | _ => none }
def metaDecodesRow : OpenClaim := { program := "ytikjcmijmhmilaa", sum := "baa097d779f0a1f04294046e61c095b70639200a758c8b063bb5efff6991c528", func := "rill/rilllaw09.MetaDecodes", spec := "metaDecodes", unfollowed := true, recurses := true, apart := false }
def MetaDecodesSaid : Prop := metaDecodesRow.holds Try.pinned (OpenSpec.ofChange metaDecodesSpec)

/-- ITS FALSE NEIGHBOUR: 'it returns false'. Refute it at one input. -/
def metaDecodesWrong : ChangeSpec := { name := "metaDecodes", fn := fun _ => fun
  | [d] => { results := [.lit (.bool false)], args := [d] }
  | _ => none }
def MetaDecodesWrongFalsely : Prop := metaDecodesRow.holds Try.pinned (OpenSpec.ofChange metaDecodesWrong)

/-- 'rilllaw09.MetaRound': WHATEVER THE INPUT: true; the input reads as it did. -/
def metaRoundSpec : ChangeSpec := { name := "metaRound", fn := fun _ => fun
  | [d1, d2, d3] => { results := [.lit (.bool true)], args := [d1, d2, d3] }
  | _ => none }
def metaRoundRow : OpenClaim := { program := "ytikjcmijmhmilaa", sum := "baa097d779f0a1f04294046e61c095b70639200a758c8b063bb5efff6991c528", func := "rill/rilllaw09.MetaRound", spec := "metaRound", unfollowed := true, recurses := true, apart := false }
def MetaRoundSaid : Prop := metaRoundRow.holds Try.pinned (OpenSpec.ofChange metaRoundSpec)

/-- ITS FALSE NEIGHBOUR: 'it returns false'. Refute it at one input. -/
def metaRoundWrong : ChangeSpec := { name := "metaRound", fn := fun _ => fun
  | [d1, d2, d3] => { results := [.lit (.bool false)], args := [d1, d2, d3] }
  | _ => none }
def MetaRoundWrongFalsely : Prop := metaRoundRow.holds Try.pinned (OpenSpec.ofChange metaRoundWrong)

/- THE SECOND FORM. 'bulk': how many values and letters a reading holds, each counted each time it is reached (what is shared counts as often as it is met; a slice's spare places count too). A statement '..UptoSaid' is the law's where the arguments, and the package variables that the reading takes, are together of bulk at most 1048576: NARROWER than '..Said'. Prove '..Said' where nothing that the law and all that it calls make is longer than what came in: it says more and counts as full. Else prove '..UptoSaid'. A law counts once. -/
mutual
def uptoBulk {H : Type} : DataW H → Nat
  | .lit (.string bytes) => bytes.length + 1
  | .lit _ => 1
  | .nil => 1
  | .ptr d => uptoBulk d + 1
  | .slice elems spare => uptoBulkAll elems + uptoBulkAll spare + 1
  | .agg parts => uptoBulkAll parts + 1
  | .iface _ d => uptoBulk d + 1
  | .map entries => uptoBulkEntries entries + 1
  | .held _ => 1
def uptoBulkAll {H : Type} : List (DataW H) → Nat
  | [] => 0
  | d :: r => uptoBulk d + uptoBulkAll r
def uptoBulkEntries {H : Type} : List (Lit × DataW H) → Nat
  | [] => 0
  | x :: r => uptoBulkEntry x + uptoBulkEntries r
def uptoBulkEntry {H : Type} : Lit × DataW H → Nat
  | (.string bytes, d) => bytes.length + uptoBulk d + 1
  | (_, d) => uptoBulk d + 1
 end
def uptoSmall : (H : Type) → List (DataW H) → Bool := fun _ ds => decide (uptoBulkAll ds ≤ 1048576)
def OpenSpec.upto (s : _root_.Go.ChangeSpec) : _root_.Go.OpenSpec := { _root_.Go.OpenSpec.ofChange s with cond := some uptoSmall }

/-- 'rilllaw09.MetaTags', WHERE WHAT IT READS IS OF BULK AT MOST 1048576: true; the input reads as it did. -/
def metaTagsUptoRow : OpenClaim := { program := "ytikjcmijmhmilaa", sum := "baa097d779f0a1f04294046e61c095b70639200a758c8b063bb5efff6991c528", func := "rill/rilllaw09.MetaTags", spec := "metaTags", unfollowed := true, recurses := true, apart := false, narrowed := true }
def MetaTagsUptoSaid : Prop := metaTagsUptoRow.holds Try.pinned (OpenSpec.upto metaTagsSpec)

/-- 'rilllaw09.MetaOrder', WHERE WHAT IT READS IS OF BULK AT MOST 1048576: true; the input reads as it did. -/
def metaOrderUptoRow : OpenClaim := { program := "ytikjcmijmhmilaa", sum := "baa097d779f0a1f04294046e61c095b70639200a758c8b063bb5efff6991c528", func := "rill/rilllaw09.MetaOrder", spec := "metaOrder", unfollowed := true, recurses := true, apart := false, narrowed := true }
def MetaOrderUptoSaid : Prop := metaOrderUptoRow.holds Try.pinned (OpenSpec.upto metaOrderSpec)

/-- 'rilllaw09.MetaEncodes', WHERE WHAT IT READS IS OF BULK AT MOST 1048576: true; the input reads as it did. -/
def metaEncodesUptoRow : OpenClaim := { program := "ytikjcmijmhmilaa", sum := "baa097d779f0a1f04294046e61c095b70639200a758c8b063bb5efff6991c528", func := "rill/rilllaw09.MetaEncodes", spec := "metaEncodes", unfollowed := true, recurses := true, apart := false, narrowed := true }
def MetaEncodesUptoSaid : Prop := metaEncodesUptoRow.holds Try.pinned (OpenSpec.upto metaEncodesSpec)

/-- 'rilllaw09.MetaDecodes', WHERE WHAT IT READS IS OF BULK AT MOST 1048576: true; the input reads as it did. -/
def metaDecodesUptoRow : OpenClaim := { program := "ytikjcmijmhmilaa", sum := "baa097d779f0a1f04294046e61c095b70639200a758c8b063bb5efff6991c528", func := "rill/rilllaw09.MetaDecodes", spec := "metaDecodes", unfollowed := true, recurses := true, apart := false, narrowed := true }
def MetaDecodesUptoSaid : Prop := metaDecodesUptoRow.holds Try.pinned (OpenSpec.upto metaDecodesSpec)

/-- 'rilllaw09.MetaRound', WHERE WHAT IT READS IS OF BULK AT MOST 1048576: true; the input reads as it did. -/
def metaRoundUptoRow : OpenClaim := { program := "ytikjcmijmhmilaa", sum := "baa097d779f0a1f04294046e61c095b70639200a758c8b063bb5efff6991c528", func := "rill/rilllaw09.MetaRound", spec := "metaRound", unfollowed := true, recurses := true, apart := false, narrowed := true }
def MetaRoundUptoSaid : Prop := metaRoundUptoRow.holds Try.pinned (OpenSpec.upto metaRoundSpec)

end Rows
end Go.Proofs.Ytikjcmijmhmilaa
