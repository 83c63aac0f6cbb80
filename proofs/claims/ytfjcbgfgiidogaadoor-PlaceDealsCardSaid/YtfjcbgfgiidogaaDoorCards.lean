/-
  DERIVED. GIVEN WITH THE SEED: THE CARDS: each row of YtfjcbgfgiidogaaDoorRows.lean that lists a variable, with what it lists TIED to the program's text (the seventh form; the later family's looks); each row that meets fmt, with fmt's text TOLD by the authors' own Lean function (tested against real Go, not proved from fmt's source: count such statements apart). THE CARD IS WHAT COUNTS. Prove the row's statement (the work); the ties are given (YtfjcbgfgiidogaaDoorTie.lean); close each card by the builder's one call (the guide's Derived/Test/ToyasCard.lean, 'card_holds'). Laid BY PROGRAM, IN A SANDBOX (cutbox-door.mjs). By AI agents, Wed Nov 11 2026. No macro, syntax, notation, axiom, sorry.
-/
import Derived.Test.YtfjcbgfgiidogaaDoorRows
import GoSem.ClaimSeven
namespace Go.Proofs.YtfjcbgfgiidogaaDoor
namespace Rows

/-- THE TIED CARD OF 'rilllaw05.ChunkParts'. -/
def chunkPartsCard : Claim7 := { stood := { row := chunkPartsRow, standIns := [], harness := (true, "f79f3f3a0be102963848b45434a59a5a7ffa1acac625fd51b398bfd57316b20a"), looks := false }, kinds := [], alts := [], laidByText := true, laidKinds := [.data], laidTests := true, laidLooks := .later }
def ChunkPartsCardSaid : Prop := Claim7.holds Tryd.pinned (.plain (OpenSpec.ofChange chunkPartsSpec)) chunkPartsCard

/-- THE TIED CARD OF 'rilllaw05.ChunkSymbols'. -/
def chunkSymbolsCard : Claim7 := { stood := { row := chunkSymbolsRow, standIns := [], harness := (true, "f79f3f3a0be102963848b45434a59a5a7ffa1acac625fd51b398bfd57316b20a"), looks := false }, kinds := [], alts := [], laidByText := true, laidKinds := [.data], laidTests := true, laidLooks := .later }
def ChunkSymbolsCardSaid : Prop := Claim7.holds Tryd.pinned (.plain (OpenSpec.ofChange chunkSymbolsSpec)) chunkSymbolsCard

/-- THE TIED CARD OF 'rilllaw05.ChunkGathers'. -/
def chunkGathersCard : Claim7 := { stood := { row := chunkGathersRow, standIns := [], harness := (true, "f79f3f3a0be102963848b45434a59a5a7ffa1acac625fd51b398bfd57316b20a"), looks := false }, kinds := [], alts := [], laidByText := true, laidKinds := [.data], laidTests := true, laidLooks := .later }
def ChunkGathersCardSaid : Prop := Claim7.holds Tryd.pinned (.plain (OpenSpec.ofChange chunkGathersSpec)) chunkGathersCard

/-- THE TIED CARD OF 'rilllaw05.ChunkRound'. -/
def chunkRoundCard : Claim7 := { stood := { row := chunkRoundRow, standIns := [], harness := (true, "f79f3f3a0be102963848b45434a59a5a7ffa1acac625fd51b398bfd57316b20a"), looks := false }, kinds := [], alts := [], laidByText := true, laidKinds := [.data], laidTests := true, laidLooks := .later }
def ChunkRoundCardSaid : Prop := Claim7.holds Tryd.pinned (.plain (OpenSpec.ofChange chunkRoundSpec)) chunkRoundCard

/-- THE TIED CARD OF 'rilllaw05.ChunkCounts'. -/
def chunkCountsCard : Claim7 := { stood := { row := chunkCountsRow, standIns := [], harness := (true, "f79f3f3a0be102963848b45434a59a5a7ffa1acac625fd51b398bfd57316b20a"), looks := false }, kinds := [], alts := [], laidByText := true, laidKinds := [.data], laidTests := true, laidLooks := .later }
def ChunkCountsCardSaid : Prop := Claim7.holds Tryd.pinned (.plain (OpenSpec.ofChange chunkCountsSpec)) chunkCountsCard

/-- THE TIED CARD OF 'rilllaw05.ChunkSources'. -/
def chunkSourcesCard : Claim7 := { stood := { row := chunkSourcesRow, standIns := [], harness := (true, "f79f3f3a0be102963848b45434a59a5a7ffa1acac625fd51b398bfd57316b20a"), looks := false }, kinds := [], alts := [], laidByText := true, laidKinds := [.data], laidTests := true, laidLooks := .later }
def ChunkSourcesCardSaid : Prop := Claim7.holds Tryd.pinned (.plain (OpenSpec.ofChange chunkSourcesSpec)) chunkSourcesCard

/-- THE TIED CARD OF 'rilllaw05.ChunkMemory'. -/
def chunkMemoryCard : Claim7 := { stood := { row := chunkMemoryRow, standIns := [], harness := (true, "f79f3f3a0be102963848b45434a59a5a7ffa1acac625fd51b398bfd57316b20a"), looks := false }, kinds := [], alts := [], laidByText := true, laidKinds := [.data], laidTests := true, laidLooks := .later }
def ChunkMemoryCardSaid : Prop := Claim7.holds Tryd.pinned (.plain (OpenSpec.ofChange chunkMemorySpec)) chunkMemoryCard

/-- THE TIED CARD OF 'rilllaw05.ChunkMore'. -/
def chunkMoreCard : Claim7 := { stood := { row := chunkMoreRow, standIns := [], harness := (true, "f79f3f3a0be102963848b45434a59a5a7ffa1acac625fd51b398bfd57316b20a"), looks := false }, kinds := [], alts := [], laidByText := true, laidKinds := [.data], laidTests := true, laidLooks := .later }
def ChunkMoreCardSaid : Prop := Claim7.holds Tryd.pinned (.plain (OpenSpec.ofChange chunkMoreSpec)) chunkMoreCard

/-- THE TIED CARD OF 'rilllaw05.ChunkApart'. -/
def chunkApartCard : Claim7 := { stood := { row := chunkApartRow, standIns := [], harness := (true, "f79f3f3a0be102963848b45434a59a5a7ffa1acac625fd51b398bfd57316b20a"), looks := false }, kinds := [], alts := [], laidByText := true, laidKinds := [.data], laidTests := true, laidLooks := .later }
def ChunkApartCardSaid : Prop := Claim7.holds Tryd.pinned (.plain (OpenSpec.ofChange chunkApartSpec)) chunkApartCard

/-- THE TIED CARD OF 'rilllaw13.PlaceDeals'. -/
def placeDealsCard : Claim7 := { stood := { row := placeDealsRow, standIns := [], harness := (true, "f79f3f3a0be102963848b45434a59a5a7ffa1acac625fd51b398bfd57316b20a"), looks := false }, kinds := [], alts := [], laidByText := true, laidKinds := [.data], laidTests := true, laidLooks := .later }
def PlaceDealsCardSaid : Prop := Claim7.holds Tryd.pinned (.plain (OpenSpec.ofChange placeDealsSpec)) placeDealsCard

/-- THE TIED CARD OF 'rilllaw13.PlaceMeets'. -/
def placeMeetsCard : Claim7 := { stood := { row := placeMeetsRow, standIns := [], harness := (true, "f79f3f3a0be102963848b45434a59a5a7ffa1acac625fd51b398bfd57316b20a"), looks := false }, kinds := [], alts := [], laidByText := true, laidKinds := [.data], laidTests := true, laidLooks := .later }
def PlaceMeetsCardSaid : Prop := Claim7.holds Tryd.pinned (.plain (OpenSpec.ofChange placeMeetsSpec)) placeMeetsCard

/-- THE SECOND FORM's CARD OF 'rilllaw05.ChunkParts'. -/
def chunkPartsUptoCard : Claim7 := { stood := { row := chunkPartsUptoRow, standIns := [], harness := (true, "f79f3f3a0be102963848b45434a59a5a7ffa1acac625fd51b398bfd57316b20a"), looks := false }, kinds := [], alts := [], laidByText := true, laidKinds := [.data], laidTests := true, laidLooks := .later }
def ChunkPartsUptoCardSaid : Prop := Claim7.holds Tryd.pinned (.plain (OpenSpec.upto chunkPartsSpec)) chunkPartsUptoCard

/-- THE SECOND FORM's CARD OF 'rilllaw05.ChunkSymbols'. -/
def chunkSymbolsUptoCard : Claim7 := { stood := { row := chunkSymbolsUptoRow, standIns := [], harness := (true, "f79f3f3a0be102963848b45434a59a5a7ffa1acac625fd51b398bfd57316b20a"), looks := false }, kinds := [], alts := [], laidByText := true, laidKinds := [.data], laidTests := true, laidLooks := .later }
def ChunkSymbolsUptoCardSaid : Prop := Claim7.holds Tryd.pinned (.plain (OpenSpec.upto chunkSymbolsSpec)) chunkSymbolsUptoCard

/-- THE SECOND FORM's CARD OF 'rilllaw05.ChunkGathers'. -/
def chunkGathersUptoCard : Claim7 := { stood := { row := chunkGathersUptoRow, standIns := [], harness := (true, "f79f3f3a0be102963848b45434a59a5a7ffa1acac625fd51b398bfd57316b20a"), looks := false }, kinds := [], alts := [], laidByText := true, laidKinds := [.data], laidTests := true, laidLooks := .later }
def ChunkGathersUptoCardSaid : Prop := Claim7.holds Tryd.pinned (.plain (OpenSpec.upto chunkGathersSpec)) chunkGathersUptoCard

/-- THE SECOND FORM's CARD OF 'rilllaw05.ChunkRound'. -/
def chunkRoundUptoCard : Claim7 := { stood := { row := chunkRoundUptoRow, standIns := [], harness := (true, "f79f3f3a0be102963848b45434a59a5a7ffa1acac625fd51b398bfd57316b20a"), looks := false }, kinds := [], alts := [], laidByText := true, laidKinds := [.data], laidTests := true, laidLooks := .later }
def ChunkRoundUptoCardSaid : Prop := Claim7.holds Tryd.pinned (.plain (OpenSpec.upto chunkRoundSpec)) chunkRoundUptoCard

/-- THE SECOND FORM's CARD OF 'rilllaw05.ChunkCounts'. -/
def chunkCountsUptoCard : Claim7 := { stood := { row := chunkCountsUptoRow, standIns := [], harness := (true, "f79f3f3a0be102963848b45434a59a5a7ffa1acac625fd51b398bfd57316b20a"), looks := false }, kinds := [], alts := [], laidByText := true, laidKinds := [.data], laidTests := true, laidLooks := .later }
def ChunkCountsUptoCardSaid : Prop := Claim7.holds Tryd.pinned (.plain (OpenSpec.upto chunkCountsSpec)) chunkCountsUptoCard

/-- THE SECOND FORM's CARD OF 'rilllaw05.ChunkSources'. -/
def chunkSourcesUptoCard : Claim7 := { stood := { row := chunkSourcesUptoRow, standIns := [], harness := (true, "f79f3f3a0be102963848b45434a59a5a7ffa1acac625fd51b398bfd57316b20a"), looks := false }, kinds := [], alts := [], laidByText := true, laidKinds := [.data], laidTests := true, laidLooks := .later }
def ChunkSourcesUptoCardSaid : Prop := Claim7.holds Tryd.pinned (.plain (OpenSpec.upto chunkSourcesSpec)) chunkSourcesUptoCard

/-- THE SECOND FORM's CARD OF 'rilllaw05.ChunkMemory'. -/
def chunkMemoryUptoCard : Claim7 := { stood := { row := chunkMemoryUptoRow, standIns := [], harness := (true, "f79f3f3a0be102963848b45434a59a5a7ffa1acac625fd51b398bfd57316b20a"), looks := false }, kinds := [], alts := [], laidByText := true, laidKinds := [.data], laidTests := true, laidLooks := .later }
def ChunkMemoryUptoCardSaid : Prop := Claim7.holds Tryd.pinned (.plain (OpenSpec.upto chunkMemorySpec)) chunkMemoryUptoCard

/-- THE SECOND FORM's CARD OF 'rilllaw05.ChunkMore'. -/
def chunkMoreUptoCard : Claim7 := { stood := { row := chunkMoreUptoRow, standIns := [], harness := (true, "f79f3f3a0be102963848b45434a59a5a7ffa1acac625fd51b398bfd57316b20a"), looks := false }, kinds := [], alts := [], laidByText := true, laidKinds := [.data], laidTests := true, laidLooks := .later }
def ChunkMoreUptoCardSaid : Prop := Claim7.holds Tryd.pinned (.plain (OpenSpec.upto chunkMoreSpec)) chunkMoreUptoCard

/-- THE SECOND FORM's CARD OF 'rilllaw05.ChunkApart'. -/
def chunkApartUptoCard : Claim7 := { stood := { row := chunkApartUptoRow, standIns := [], harness := (true, "f79f3f3a0be102963848b45434a59a5a7ffa1acac625fd51b398bfd57316b20a"), looks := false }, kinds := [], alts := [], laidByText := true, laidKinds := [.data], laidTests := true, laidLooks := .later }
def ChunkApartUptoCardSaid : Prop := Claim7.holds Tryd.pinned (.plain (OpenSpec.upto chunkApartSpec)) chunkApartUptoCard

/-- THE SECOND FORM's CARD OF 'rilllaw13.PlaceDeals'. -/
def placeDealsUptoCard : Claim7 := { stood := { row := placeDealsUptoRow, standIns := [], harness := (true, "f79f3f3a0be102963848b45434a59a5a7ffa1acac625fd51b398bfd57316b20a"), looks := false }, kinds := [], alts := [], laidByText := true, laidKinds := [.data], laidTests := true, laidLooks := .later }
def PlaceDealsUptoCardSaid : Prop := Claim7.holds Tryd.pinned (.plain (OpenSpec.upto placeDealsSpec)) placeDealsUptoCard

/-- THE SECOND FORM's CARD OF 'rilllaw13.PlaceMeets'. -/
def placeMeetsUptoCard : Claim7 := { stood := { row := placeMeetsUptoRow, standIns := [], harness := (true, "f79f3f3a0be102963848b45434a59a5a7ffa1acac625fd51b398bfd57316b20a"), looks := false }, kinds := [], alts := [], laidByText := true, laidKinds := [.data], laidTests := true, laidLooks := .later }
def PlaceMeetsUptoCardSaid : Prop := Claim7.holds Tryd.pinned (.plain (OpenSpec.upto placeMeetsSpec)) placeMeetsUptoCard
end Rows
end Go.Proofs.YtfjcbgfgiidogaaDoor
