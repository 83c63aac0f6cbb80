/-
  DERIVED. GIVEN WITH THE SEED: THE CARDS: each row of YtopnjjehefaghaaDoorRows.lean that lists a variable, with what it lists TIED to the program's text (the seventh form; the later family's looks); each row that meets fmt, with fmt's text TOLD by the authors' own Lean function (tested against real Go, not proved from fmt's source: count such statements apart). THE CARD IS WHAT COUNTS. Prove the row's statement (the work); the ties are given (YtopnjjehefaghaaDoorTie.lean); close each card by the builder's one call (the guide's Derived/Test/ToyasCard.lean, 'card_holds'). Laid BY PROGRAM, IN A SANDBOX (cutbox-door.mjs). By AI agents, Wed Nov 11 2026. No macro, syntax, notation, axiom, sorry.
-/
import Derived.Test.YtopnjjehefaghaaDoorRows
import GoSem.ClaimSeven
namespace Go.Proofs.YtopnjjehefaghaaDoor
namespace Rows

/-- THE TIED CARD OF 'rilllaw11.MsgEncodes'. -/
def msgEncodesCard : Claim7 := { stood := { row := msgEncodesRow, standIns := [], harness := (true, "a2d742588ac8453dd286dff2542a72fb6e071529a072f8363ff632c0ce1ae0d2"), looks := false }, kinds := [], alts := [], laidByText := true, laidKinds := [.data], laidTests := true, laidLooks := .later }
def MsgEncodesCardSaid : Prop := Claim7.holds Tryd.pinned (.plain (OpenSpec.ofChange msgEncodesSpec)) msgEncodesCard

/-- THE TIED CARD OF 'rilllaw11.MsgDecodes'. -/
def msgDecodesCard : Claim7 := { stood := { row := msgDecodesRow, standIns := [], harness := (true, "a2d742588ac8453dd286dff2542a72fb6e071529a072f8363ff632c0ce1ae0d2"), looks := false }, kinds := [], alts := [], laidByText := true, laidKinds := [.data], laidTests := true, laidLooks := .later }
def MsgDecodesCardSaid : Prop := Claim7.holds Tryd.pinned (.plain (OpenSpec.ofChange msgDecodesSpec)) msgDecodesCard

/-- THE TIED CARD OF 'rilllaw11.MsgReplies'. -/
def msgRepliesCard : Claim7 := { stood := { row := msgRepliesRow, standIns := [], harness := (true, "a2d742588ac8453dd286dff2542a72fb6e071529a072f8363ff632c0ce1ae0d2"), looks := false }, kinds := [], alts := [], laidByText := true, laidKinds := [.data], laidTests := true, laidLooks := .later }
def MsgRepliesCardSaid : Prop := Claim7.holds Tryd.pinned (.plain (OpenSpec.ofChange msgRepliesSpec)) msgRepliesCard

/-- THE TIED CARD OF 'rilllaw11.MsgRound'. -/
def msgRoundCard : Claim7 := { stood := { row := msgRoundRow, standIns := [], harness := (true, "a2d742588ac8453dd286dff2542a72fb6e071529a072f8363ff632c0ce1ae0d2"), looks := false }, kinds := [], alts := [], laidByText := true, laidKinds := [.data], laidTests := true, laidLooks := .later }
def MsgRoundCardSaid : Prop := Claim7.holds Tryd.pinned (.plain (OpenSpec.ofChange msgRoundSpec)) msgRoundCard

/-- THE TIED CARD OF 'rilllaw11.MsgOnly'. -/
def msgOnlyCard : Claim7 := { stood := { row := msgOnlyRow, standIns := [], harness := (true, "a2d742588ac8453dd286dff2542a72fb6e071529a072f8363ff632c0ce1ae0d2"), looks := false }, kinds := [], alts := [], laidByText := true, laidKinds := [.data], laidTests := true, laidLooks := .later }
def MsgOnlyCardSaid : Prop := Claim7.holds Tryd.pinned (.plain (OpenSpec.ofChange msgOnlySpec)) msgOnlyCard

/-- THE TIED CARD OF 'rilllaw11.MsgMemory'. -/
def msgMemoryCard : Claim7 := { stood := { row := msgMemoryRow, standIns := [], harness := (true, "a2d742588ac8453dd286dff2542a72fb6e071529a072f8363ff632c0ce1ae0d2"), looks := false }, kinds := [], alts := [], laidByText := true, laidKinds := [.data], laidTests := true, laidLooks := .later }
def MsgMemoryCardSaid : Prop := Claim7.holds Tryd.pinned (.plain (OpenSpec.ofChange msgMemorySpec)) msgMemoryCard

/-- THE SECOND FORM's CARD OF 'rilllaw11.MsgEncodes'. -/
def msgEncodesUptoCard : Claim7 := { stood := { row := msgEncodesUptoRow, standIns := [], harness := (true, "a2d742588ac8453dd286dff2542a72fb6e071529a072f8363ff632c0ce1ae0d2"), looks := false }, kinds := [], alts := [], laidByText := true, laidKinds := [.data], laidTests := true, laidLooks := .later }
def MsgEncodesUptoCardSaid : Prop := Claim7.holds Tryd.pinned (.plain (OpenSpec.upto msgEncodesSpec)) msgEncodesUptoCard

/-- THE SECOND FORM's CARD OF 'rilllaw11.MsgDecodes'. -/
def msgDecodesUptoCard : Claim7 := { stood := { row := msgDecodesUptoRow, standIns := [], harness := (true, "a2d742588ac8453dd286dff2542a72fb6e071529a072f8363ff632c0ce1ae0d2"), looks := false }, kinds := [], alts := [], laidByText := true, laidKinds := [.data], laidTests := true, laidLooks := .later }
def MsgDecodesUptoCardSaid : Prop := Claim7.holds Tryd.pinned (.plain (OpenSpec.upto msgDecodesSpec)) msgDecodesUptoCard

/-- THE SECOND FORM's CARD OF 'rilllaw11.MsgReplies'. -/
def msgRepliesUptoCard : Claim7 := { stood := { row := msgRepliesUptoRow, standIns := [], harness := (true, "a2d742588ac8453dd286dff2542a72fb6e071529a072f8363ff632c0ce1ae0d2"), looks := false }, kinds := [], alts := [], laidByText := true, laidKinds := [.data], laidTests := true, laidLooks := .later }
def MsgRepliesUptoCardSaid : Prop := Claim7.holds Tryd.pinned (.plain (OpenSpec.upto msgRepliesSpec)) msgRepliesUptoCard

/-- THE SECOND FORM's CARD OF 'rilllaw11.MsgRound'. -/
def msgRoundUptoCard : Claim7 := { stood := { row := msgRoundUptoRow, standIns := [], harness := (true, "a2d742588ac8453dd286dff2542a72fb6e071529a072f8363ff632c0ce1ae0d2"), looks := false }, kinds := [], alts := [], laidByText := true, laidKinds := [.data], laidTests := true, laidLooks := .later }
def MsgRoundUptoCardSaid : Prop := Claim7.holds Tryd.pinned (.plain (OpenSpec.upto msgRoundSpec)) msgRoundUptoCard

/-- THE SECOND FORM's CARD OF 'rilllaw11.MsgOnly'. -/
def msgOnlyUptoCard : Claim7 := { stood := { row := msgOnlyUptoRow, standIns := [], harness := (true, "a2d742588ac8453dd286dff2542a72fb6e071529a072f8363ff632c0ce1ae0d2"), looks := false }, kinds := [], alts := [], laidByText := true, laidKinds := [.data], laidTests := true, laidLooks := .later }
def MsgOnlyUptoCardSaid : Prop := Claim7.holds Tryd.pinned (.plain (OpenSpec.upto msgOnlySpec)) msgOnlyUptoCard

/-- THE SECOND FORM's CARD OF 'rilllaw11.MsgMemory'. -/
def msgMemoryUptoCard : Claim7 := { stood := { row := msgMemoryUptoRow, standIns := [], harness := (true, "a2d742588ac8453dd286dff2542a72fb6e071529a072f8363ff632c0ce1ae0d2"), looks := false }, kinds := [], alts := [], laidByText := true, laidKinds := [.data], laidTests := true, laidLooks := .later }
def MsgMemoryUptoCardSaid : Prop := Claim7.holds Tryd.pinned (.plain (OpenSpec.upto msgMemorySpec)) msgMemoryUptoCard
end Rows
end Go.Proofs.YtopnjjehefaghaaDoor
