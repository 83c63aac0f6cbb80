/-
  DERIVED. GIVEN WITH THE SEED: THE CARDS: each row of YtkihgidhpggcfaaDoorRows.lean that lists a variable, with what it lists TIED to the program's text (the seventh form; the later family's looks); each row that meets fmt, with fmt's text TOLD by the authors' own Lean function (tested against real Go, not proved from fmt's source: count such statements apart). THE CARD IS WHAT COUNTS. Prove the row's statement (the work); the ties are given (YtkihgidhpggcfaaDoorTie.lean); close each card by the builder's one call (the guide's Derived/Test/ToyasCard.lean, 'card_holds'). Laid BY PROGRAM, IN A SANDBOX (cutbox-door.mjs). By AI agents, Wed Nov 11 2026. No macro, syntax, notation, axiom, sorry.
-/
import Derived.Test.YtkihgidhpggcfaaDoorRows
import GoSem.ClaimSeven
namespace Go.Proofs.YtkihgidhpggcfaaDoor
namespace Rows

/-- THE TIED CARD OF 'rilllaw04.RqRows'. -/
def rqRowsCard : Claim7 := { stood := { row := rqRowsRow, standIns := [], harness := (true, "87d612a973b71a638af7ad987d1580210564118062ba1cf16c49767620943cf9"), looks := false }, kinds := [], alts := [], laidByText := true, laidKinds := [.data], laidTests := true, laidLooks := .later }
def RqRowsCardSaid : Prop := Claim7.holds Tryd.pinned (.plain (OpenSpec.ofChange rqRowsSpec)) rqRowsCard

/-- THE TIED CARD OF 'rilllaw04.RqEncodes'. -/
def rqEncodesCard : Claim7 := { stood := { row := rqEncodesRow, standIns := [], harness := (true, "87d612a973b71a638af7ad987d1580210564118062ba1cf16c49767620943cf9"), looks := false }, kinds := [], alts := [], laidByText := true, laidKinds := [.data], laidTests := true, laidLooks := .later }
def RqEncodesCardSaid : Prop := Claim7.holds Tryd.pinned (.plain (OpenSpec.ofChange rqEncodesSpec)) rqEncodesCard

/-- THE TIED CARD OF 'rilllaw04.RqDecodes'. -/
def rqDecodesCard : Claim7 := { stood := { row := rqDecodesRow, standIns := [], harness := (true, "87d612a973b71a638af7ad987d1580210564118062ba1cf16c49767620943cf9"), looks := false }, kinds := [], alts := [], laidByText := true, laidKinds := [.data], laidTests := true, laidLooks := .later }
def RqDecodesCardSaid : Prop := Claim7.holds Tryd.pinned (.plain (OpenSpec.ofChange rqDecodesSpec)) rqDecodesCard

/-- THE TIED CARD OF 'rilllaw04.RqEnough'. -/
def rqEnoughCard : Claim7 := { stood := { row := rqEnoughRow, standIns := [], harness := (true, "87d612a973b71a638af7ad987d1580210564118062ba1cf16c49767620943cf9"), looks := false }, kinds := [], alts := [], laidByText := true, laidKinds := [.data], laidTests := true, laidLooks := .later }
def RqEnoughCardSaid : Prop := Claim7.holds Tryd.pinned (.plain (OpenSpec.ofChange rqEnoughSpec)) rqEnoughCard

/-- THE TIED CARD OF 'rilllaw04.RqRound'. -/
def rqRoundCard : Claim7 := { stood := { row := rqRoundRow, standIns := [], harness := (true, "87d612a973b71a638af7ad987d1580210564118062ba1cf16c49767620943cf9"), looks := false }, kinds := [], alts := [], laidByText := true, laidKinds := [.data], laidTests := true, laidLooks := .later }
def RqRoundCardSaid : Prop := Claim7.holds Tryd.pinned (.plain (OpenSpec.ofChange rqRoundSpec)) rqRoundCard

/-- THE TIED CARD OF 'rilllaw04.RqSource'. -/
def rqSourceCard : Claim7 := { stood := { row := rqSourceRow, standIns := [], harness := (true, "87d612a973b71a638af7ad987d1580210564118062ba1cf16c49767620943cf9"), looks := false }, kinds := [], alts := [], laidByText := true, laidKinds := [.data], laidTests := true, laidLooks := .later }
def RqSourceCardSaid : Prop := Claim7.holds Tryd.pinned (.plain (OpenSpec.ofChange rqSourceSpec)) rqSourceCard

/-- THE TIED CARD OF 'rilllaw04.RqLinear'. -/
def rqLinearCard : Claim7 := { stood := { row := rqLinearRow, standIns := [], harness := (true, "87d612a973b71a638af7ad987d1580210564118062ba1cf16c49767620943cf9"), looks := false }, kinds := [], alts := [], laidByText := true, laidKinds := [.data], laidTests := true, laidLooks := .later }
def RqLinearCardSaid : Prop := Claim7.holds Tryd.pinned (.plain (OpenSpec.ofChange rqLinearSpec)) rqLinearCard

/-- THE TIED CARD OF 'rilllaw04.RqInner'. -/
def rqInnerCard : Claim7 := { stood := { row := rqInnerRow, standIns := [], harness := (true, "87d612a973b71a638af7ad987d1580210564118062ba1cf16c49767620943cf9"), looks := false }, kinds := [], alts := [], laidByText := true, laidKinds := [.data], laidTests := true, laidLooks := .later }
def RqInnerCardSaid : Prop := Claim7.holds Tryd.pinned (.plain (OpenSpec.ofChange rqInnerSpec)) rqInnerCard

/-- THE TIED CARD OF 'rilllaw04.RqSpoilt'. -/
def rqSpoiltCard : Claim7 := { stood := { row := rqSpoiltRow, standIns := [], harness := (true, "87d612a973b71a638af7ad987d1580210564118062ba1cf16c49767620943cf9"), looks := false }, kinds := [], alts := [], laidByText := true, laidKinds := [.data], laidTests := true, laidLooks := .later }
def RqSpoiltCardSaid : Prop := Claim7.holds Tryd.pinned (.plain (OpenSpec.ofChange rqSpoiltSpec)) rqSpoiltCard

/-- THE TIED CARD OF 'rilllaw04.RqMore'. -/
def rqMoreCard : Claim7 := { stood := { row := rqMoreRow, standIns := [], harness := (true, "87d612a973b71a638af7ad987d1580210564118062ba1cf16c49767620943cf9"), looks := false }, kinds := [], alts := [], laidByText := true, laidKinds := [.data], laidTests := true, laidLooks := .later }
def RqMoreCardSaid : Prop := Claim7.holds Tryd.pinned (.plain (OpenSpec.ofChange rqMoreSpec)) rqMoreCard

/-- THE TIED CARD OF 'rilllaw04.RqPadded'. -/
def rqPaddedCard : Claim7 := { stood := { row := rqPaddedRow, standIns := [], harness := (true, "87d612a973b71a638af7ad987d1580210564118062ba1cf16c49767620943cf9"), looks := false }, kinds := [], alts := [], laidByText := true, laidKinds := [.data], laidTests := true, laidLooks := .later }
def RqPaddedCardSaid : Prop := Claim7.holds Tryd.pinned (.plain (OpenSpec.ofChange rqPaddedSpec)) rqPaddedCard

/-- THE SECOND FORM's CARD OF 'rilllaw04.RqRows'. -/
def rqRowsUptoCard : Claim7 := { stood := { row := rqRowsUptoRow, standIns := [], harness := (true, "87d612a973b71a638af7ad987d1580210564118062ba1cf16c49767620943cf9"), looks := false }, kinds := [], alts := [], laidByText := true, laidKinds := [.data], laidTests := true, laidLooks := .later }
def RqRowsUptoCardSaid : Prop := Claim7.holds Tryd.pinned (.plain (OpenSpec.upto rqRowsSpec)) rqRowsUptoCard

/-- THE SECOND FORM's CARD OF 'rilllaw04.RqEncodes'. -/
def rqEncodesUptoCard : Claim7 := { stood := { row := rqEncodesUptoRow, standIns := [], harness := (true, "87d612a973b71a638af7ad987d1580210564118062ba1cf16c49767620943cf9"), looks := false }, kinds := [], alts := [], laidByText := true, laidKinds := [.data], laidTests := true, laidLooks := .later }
def RqEncodesUptoCardSaid : Prop := Claim7.holds Tryd.pinned (.plain (OpenSpec.upto rqEncodesSpec)) rqEncodesUptoCard

/-- THE SECOND FORM's CARD OF 'rilllaw04.RqDecodes'. -/
def rqDecodesUptoCard : Claim7 := { stood := { row := rqDecodesUptoRow, standIns := [], harness := (true, "87d612a973b71a638af7ad987d1580210564118062ba1cf16c49767620943cf9"), looks := false }, kinds := [], alts := [], laidByText := true, laidKinds := [.data], laidTests := true, laidLooks := .later }
def RqDecodesUptoCardSaid : Prop := Claim7.holds Tryd.pinned (.plain (OpenSpec.upto rqDecodesSpec)) rqDecodesUptoCard

/-- THE SECOND FORM's CARD OF 'rilllaw04.RqEnough'. -/
def rqEnoughUptoCard : Claim7 := { stood := { row := rqEnoughUptoRow, standIns := [], harness := (true, "87d612a973b71a638af7ad987d1580210564118062ba1cf16c49767620943cf9"), looks := false }, kinds := [], alts := [], laidByText := true, laidKinds := [.data], laidTests := true, laidLooks := .later }
def RqEnoughUptoCardSaid : Prop := Claim7.holds Tryd.pinned (.plain (OpenSpec.upto rqEnoughSpec)) rqEnoughUptoCard

/-- THE SECOND FORM's CARD OF 'rilllaw04.RqRound'. -/
def rqRoundUptoCard : Claim7 := { stood := { row := rqRoundUptoRow, standIns := [], harness := (true, "87d612a973b71a638af7ad987d1580210564118062ba1cf16c49767620943cf9"), looks := false }, kinds := [], alts := [], laidByText := true, laidKinds := [.data], laidTests := true, laidLooks := .later }
def RqRoundUptoCardSaid : Prop := Claim7.holds Tryd.pinned (.plain (OpenSpec.upto rqRoundSpec)) rqRoundUptoCard

/-- THE SECOND FORM's CARD OF 'rilllaw04.RqSource'. -/
def rqSourceUptoCard : Claim7 := { stood := { row := rqSourceUptoRow, standIns := [], harness := (true, "87d612a973b71a638af7ad987d1580210564118062ba1cf16c49767620943cf9"), looks := false }, kinds := [], alts := [], laidByText := true, laidKinds := [.data], laidTests := true, laidLooks := .later }
def RqSourceUptoCardSaid : Prop := Claim7.holds Tryd.pinned (.plain (OpenSpec.upto rqSourceSpec)) rqSourceUptoCard

/-- THE SECOND FORM's CARD OF 'rilllaw04.RqLinear'. -/
def rqLinearUptoCard : Claim7 := { stood := { row := rqLinearUptoRow, standIns := [], harness := (true, "87d612a973b71a638af7ad987d1580210564118062ba1cf16c49767620943cf9"), looks := false }, kinds := [], alts := [], laidByText := true, laidKinds := [.data], laidTests := true, laidLooks := .later }
def RqLinearUptoCardSaid : Prop := Claim7.holds Tryd.pinned (.plain (OpenSpec.upto rqLinearSpec)) rqLinearUptoCard

/-- THE SECOND FORM's CARD OF 'rilllaw04.RqInner'. -/
def rqInnerUptoCard : Claim7 := { stood := { row := rqInnerUptoRow, standIns := [], harness := (true, "87d612a973b71a638af7ad987d1580210564118062ba1cf16c49767620943cf9"), looks := false }, kinds := [], alts := [], laidByText := true, laidKinds := [.data], laidTests := true, laidLooks := .later }
def RqInnerUptoCardSaid : Prop := Claim7.holds Tryd.pinned (.plain (OpenSpec.upto rqInnerSpec)) rqInnerUptoCard

/-- THE SECOND FORM's CARD OF 'rilllaw04.RqSpoilt'. -/
def rqSpoiltUptoCard : Claim7 := { stood := { row := rqSpoiltUptoRow, standIns := [], harness := (true, "87d612a973b71a638af7ad987d1580210564118062ba1cf16c49767620943cf9"), looks := false }, kinds := [], alts := [], laidByText := true, laidKinds := [.data], laidTests := true, laidLooks := .later }
def RqSpoiltUptoCardSaid : Prop := Claim7.holds Tryd.pinned (.plain (OpenSpec.upto rqSpoiltSpec)) rqSpoiltUptoCard

/-- THE SECOND FORM's CARD OF 'rilllaw04.RqMore'. -/
def rqMoreUptoCard : Claim7 := { stood := { row := rqMoreUptoRow, standIns := [], harness := (true, "87d612a973b71a638af7ad987d1580210564118062ba1cf16c49767620943cf9"), looks := false }, kinds := [], alts := [], laidByText := true, laidKinds := [.data], laidTests := true, laidLooks := .later }
def RqMoreUptoCardSaid : Prop := Claim7.holds Tryd.pinned (.plain (OpenSpec.upto rqMoreSpec)) rqMoreUptoCard

/-- THE SECOND FORM's CARD OF 'rilllaw04.RqPadded'. -/
def rqPaddedUptoCard : Claim7 := { stood := { row := rqPaddedUptoRow, standIns := [], harness := (true, "87d612a973b71a638af7ad987d1580210564118062ba1cf16c49767620943cf9"), looks := false }, kinds := [], alts := [], laidByText := true, laidKinds := [.data], laidTests := true, laidLooks := .later }
def RqPaddedUptoCardSaid : Prop := Claim7.holds Tryd.pinned (.plain (OpenSpec.upto rqPaddedSpec)) rqPaddedUptoCard
end Rows
end Go.Proofs.YtkihgidhpggcfaaDoor
