/-
  DERIVED. GIVEN WITH THE SEED: THE CARDS: each row of YtlmnijcocfjpoaaDoorRows.lean that lists a variable, with what it lists TIED to the program's text (the seventh form; the later family's looks); each row that meets fmt, with fmt's text TOLD by the authors' own Lean function (tested against real Go, not proved from fmt's source: count such statements apart). THE CARD IS WHAT COUNTS. Prove the row's statement (the work); the ties are given (YtlmnijcocfjpoaaDoorTie.lean); close each card by the builder's one call (the guide's Derived/Test/ToyasCard.lean, 'card_holds'). Laid BY PROGRAM, IN A SANDBOX (cutbox-door.mjs). By AI agents, Wed Nov 11 2026. No macro, syntax, notation, axiom, sorry.
-/
import Derived.Test.YtlmnijcocfjpoaaDoorRows
import GoSem.ClaimSeven
namespace Go.Proofs.YtlmnijcocfjpoaaDoor
namespace Rows

/-- THE TIED CARD OF 'rilllaw03.TupleParams'. -/
def tupleParamsCard : Claim7 := { stood := { row := tupleParamsRow, standIns := [], harness := (true, "9c6dc9865947f481640bc3042b71eb3458b4edcc153299d812787a69afbbd4d6"), looks := false }, kinds := [], alts := [], laidByText := true, laidKinds := [.data], laidTests := true, laidLooks := .later }
def TupleParamsCardSaid : Prop := Claim7.holds Tryd.pinned (.plain (OpenSpec.ofChange tupleParamsSpec)) tupleParamsCard

/-- THE TIED CARD OF 'rilllaw03.TupleRands'. -/
def tupleRandsCard : Claim7 := { stood := { row := tupleRandsRow, standIns := [], harness := (true, "9c6dc9865947f481640bc3042b71eb3458b4edcc153299d812787a69afbbd4d6"), looks := false }, kinds := [], alts := [], laidByText := true, laidKinds := [.data], laidTests := true, laidLooks := .later }
def TupleRandsCardSaid : Prop := Claim7.holds Tryd.pinned (.plain (OpenSpec.ofChange tupleRandsSpec)) tupleRandsCard

/-- THE TIED CARD OF 'rilllaw03.TupleTuples'. -/
def tupleTuplesCard : Claim7 := { stood := { row := tupleTuplesRow, standIns := [], harness := (true, "9c6dc9865947f481640bc3042b71eb3458b4edcc153299d812787a69afbbd4d6"), looks := false }, kinds := [], alts := [], laidByText := true, laidKinds := [.data], laidTests := true, laidLooks := .later }
def TupleTuplesCardSaid : Prop := Claim7.holds Tryd.pinned (.plain (OpenSpec.ofChange tupleTuplesSpec)) tupleTuplesCard

/-- THE TIED CARD OF 'rilllaw03.TupleBounds'. -/
def tupleBoundsCard : Claim7 := { stood := { row := tupleBoundsRow, standIns := [], harness := (true, "9c6dc9865947f481640bc3042b71eb3458b4edcc153299d812787a69afbbd4d6"), looks := false }, kinds := [], alts := [], laidByText := true, laidKinds := [.data], laidTests := true, laidLooks := .later }
def TupleBoundsCardSaid : Prop := Claim7.holds Tryd.pinned (.plain (OpenSpec.ofChange tupleBoundsSpec)) tupleBoundsCard

/-- THE TIED CARD OF 'rilllaw03.TupleGrows'. -/
def tupleGrowsCard : Claim7 := { stood := { row := tupleGrowsRow, standIns := [], harness := (true, "9c6dc9865947f481640bc3042b71eb3458b4edcc153299d812787a69afbbd4d6"), looks := false }, kinds := [], alts := [], laidByText := true, laidKinds := [.data], laidTests := true, laidLooks := .later }
def TupleGrowsCardSaid : Prop := Claim7.holds Tryd.pinned (.plain (OpenSpec.ofChange tupleGrowsSpec)) tupleGrowsCard

/-- THE SECOND FORM's CARD OF 'rilllaw03.TupleParams'. -/
def tupleParamsUptoCard : Claim7 := { stood := { row := tupleParamsUptoRow, standIns := [], harness := (true, "9c6dc9865947f481640bc3042b71eb3458b4edcc153299d812787a69afbbd4d6"), looks := false }, kinds := [], alts := [], laidByText := true, laidKinds := [.data], laidTests := true, laidLooks := .later }
def TupleParamsUptoCardSaid : Prop := Claim7.holds Tryd.pinned (.plain (OpenSpec.upto tupleParamsSpec)) tupleParamsUptoCard

/-- THE SECOND FORM's CARD OF 'rilllaw03.TupleRands'. -/
def tupleRandsUptoCard : Claim7 := { stood := { row := tupleRandsUptoRow, standIns := [], harness := (true, "9c6dc9865947f481640bc3042b71eb3458b4edcc153299d812787a69afbbd4d6"), looks := false }, kinds := [], alts := [], laidByText := true, laidKinds := [.data], laidTests := true, laidLooks := .later }
def TupleRandsUptoCardSaid : Prop := Claim7.holds Tryd.pinned (.plain (OpenSpec.upto tupleRandsSpec)) tupleRandsUptoCard

/-- THE SECOND FORM's CARD OF 'rilllaw03.TupleTuples'. -/
def tupleTuplesUptoCard : Claim7 := { stood := { row := tupleTuplesUptoRow, standIns := [], harness := (true, "9c6dc9865947f481640bc3042b71eb3458b4edcc153299d812787a69afbbd4d6"), looks := false }, kinds := [], alts := [], laidByText := true, laidKinds := [.data], laidTests := true, laidLooks := .later }
def TupleTuplesUptoCardSaid : Prop := Claim7.holds Tryd.pinned (.plain (OpenSpec.upto tupleTuplesSpec)) tupleTuplesUptoCard

/-- THE SECOND FORM's CARD OF 'rilllaw03.TupleBounds'. -/
def tupleBoundsUptoCard : Claim7 := { stood := { row := tupleBoundsUptoRow, standIns := [], harness := (true, "9c6dc9865947f481640bc3042b71eb3458b4edcc153299d812787a69afbbd4d6"), looks := false }, kinds := [], alts := [], laidByText := true, laidKinds := [.data], laidTests := true, laidLooks := .later }
def TupleBoundsUptoCardSaid : Prop := Claim7.holds Tryd.pinned (.plain (OpenSpec.upto tupleBoundsSpec)) tupleBoundsUptoCard

/-- THE SECOND FORM's CARD OF 'rilllaw03.TupleGrows'. -/
def tupleGrowsUptoCard : Claim7 := { stood := { row := tupleGrowsUptoRow, standIns := [], harness := (true, "9c6dc9865947f481640bc3042b71eb3458b4edcc153299d812787a69afbbd4d6"), looks := false }, kinds := [], alts := [], laidByText := true, laidKinds := [.data], laidTests := true, laidLooks := .later }
def TupleGrowsUptoCardSaid : Prop := Claim7.holds Tryd.pinned (.plain (OpenSpec.upto tupleGrowsSpec)) tupleGrowsUptoCard
end Rows
end Go.Proofs.YtlmnijcocfjpoaaDoor
