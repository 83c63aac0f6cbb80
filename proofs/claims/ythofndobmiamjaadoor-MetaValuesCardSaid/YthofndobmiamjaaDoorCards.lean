/-
  DERIVED. GIVEN WITH THE SEED: THE CARDS: each row of YthofndobmiamjaaDoorRows.lean that lists a variable, with what it lists TIED to the program's text (the seventh form; the later family's looks); each row that meets fmt, with fmt's text TOLD by the authors' own Lean function (tested against real Go, not proved from fmt's source: count such statements apart). THE CARD IS WHAT COUNTS. Prove the row's statement (the work); the ties are given (YthofndobmiamjaaDoorTie.lean); close each card by the builder's one call (the guide's Derived/Test/ToyasCard.lean, 'card_holds'). Laid BY PROGRAM, IN A SANDBOX (cutbox-door.mjs). By AI agents, Wed Nov 11 2026. No macro, syntax, notation, axiom, sorry.
-/
import Derived.Test.YthofndobmiamjaaDoorRows
import GoSem.ClaimSeven
namespace Go.Proofs.YthofndobmiamjaaDoor
namespace Rows

/-- THE TIED CARD OF 'rilllaw06.ShaSums'. -/
def shaSumsCard : Claim7 := { stood := { row := shaSumsRow, standIns := [], harness := (true, "453020cce7e4f0051b86488955aa6b6eb52425c3e599456db7a5ca8418f7768c"), looks := false }, kinds := [], alts := [], laidByText := true, laidKinds := [.data, .data], laidTests := true, laidLooks := .later }
def ShaSumsCardSaid : Prop := Claim7.holds Tryd.pinned (.plain (OpenSpec.ofChange shaSumsSpec)) shaSumsCard

/-- THE TIED CARD OF 'rilllaw06.ShaCuts'. -/
def shaCutsCard : Claim7 := { stood := { row := shaCutsRow, standIns := [], harness := (true, "453020cce7e4f0051b86488955aa6b6eb52425c3e599456db7a5ca8418f7768c"), looks := false }, kinds := [], alts := [], laidByText := true, laidKinds := [.data, .data], laidTests := true, laidLooks := .later }
def ShaCutsCardSaid : Prop := Claim7.holds Tryd.pinned (.plain (OpenSpec.ofChange shaCutsSpec)) shaCutsCard

/-- THE TIED CARD OF 'rilllaw06.ShaSame'. -/
def shaSameCard : Claim7 := { stood := { row := shaSameRow, standIns := [], harness := (true, "453020cce7e4f0051b86488955aa6b6eb52425c3e599456db7a5ca8418f7768c"), looks := false }, kinds := [], alts := [], laidByText := true, laidKinds := [.data, .data], laidTests := true, laidLooks := .later }
def ShaSameCardSaid : Prop := Claim7.holds Tryd.pinned (.plain (OpenSpec.ofChange shaSameSpec)) shaSameCard

/-- THE TIED CARD OF 'rilllaw09.MetaValues'. -/
def metaValuesCard : Claim7 := { stood := { row := metaValuesRow, standIns := [], harness := (true, "453020cce7e4f0051b86488955aa6b6eb52425c3e599456db7a5ca8418f7768c"), looks := false }, kinds := [], alts := [], laidByText := true, laidKinds := [.data, .data], laidTests := true, laidLooks := .later }
def MetaValuesCardSaid : Prop := Claim7.holds Tryd.pinned (.plain (OpenSpec.ofChange metaValuesSpec)) metaValuesCard

/-- THE TIED CARD OF 'rilllaw09.MetaSums'. -/
def metaSumsCard : Claim7 := { stood := { row := metaSumsRow, standIns := [], harness := (true, "453020cce7e4f0051b86488955aa6b6eb52425c3e599456db7a5ca8418f7768c"), looks := false }, kinds := [], alts := [], laidByText := true, laidKinds := [.data, .data], laidTests := true, laidLooks := .later }
def MetaSumsCardSaid : Prop := Claim7.holds Tryd.pinned (.plain (OpenSpec.ofChange metaSumsSpec)) metaSumsCard

/-- THE SECOND FORM's CARD OF 'rilllaw06.ShaSums'. -/
def shaSumsUptoCard : Claim7 := { stood := { row := shaSumsUptoRow, standIns := [], harness := (true, "453020cce7e4f0051b86488955aa6b6eb52425c3e599456db7a5ca8418f7768c"), looks := false }, kinds := [], alts := [], laidByText := true, laidKinds := [.data, .data], laidTests := true, laidLooks := .later }
def ShaSumsUptoCardSaid : Prop := Claim7.holds Tryd.pinned (.plain (OpenSpec.upto shaSumsSpec)) shaSumsUptoCard

/-- THE SECOND FORM's CARD OF 'rilllaw06.ShaCuts'. -/
def shaCutsUptoCard : Claim7 := { stood := { row := shaCutsUptoRow, standIns := [], harness := (true, "453020cce7e4f0051b86488955aa6b6eb52425c3e599456db7a5ca8418f7768c"), looks := false }, kinds := [], alts := [], laidByText := true, laidKinds := [.data, .data], laidTests := true, laidLooks := .later }
def ShaCutsUptoCardSaid : Prop := Claim7.holds Tryd.pinned (.plain (OpenSpec.upto shaCutsSpec)) shaCutsUptoCard

/-- THE SECOND FORM's CARD OF 'rilllaw06.ShaSame'. -/
def shaSameUptoCard : Claim7 := { stood := { row := shaSameUptoRow, standIns := [], harness := (true, "453020cce7e4f0051b86488955aa6b6eb52425c3e599456db7a5ca8418f7768c"), looks := false }, kinds := [], alts := [], laidByText := true, laidKinds := [.data, .data], laidTests := true, laidLooks := .later }
def ShaSameUptoCardSaid : Prop := Claim7.holds Tryd.pinned (.plain (OpenSpec.upto shaSameSpec)) shaSameUptoCard

/-- THE SECOND FORM's CARD OF 'rilllaw09.MetaValues'. -/
def metaValuesUptoCard : Claim7 := { stood := { row := metaValuesUptoRow, standIns := [], harness := (true, "453020cce7e4f0051b86488955aa6b6eb52425c3e599456db7a5ca8418f7768c"), looks := false }, kinds := [], alts := [], laidByText := true, laidKinds := [.data, .data], laidTests := true, laidLooks := .later }
def MetaValuesUptoCardSaid : Prop := Claim7.holds Tryd.pinned (.plain (OpenSpec.upto metaValuesSpec)) metaValuesUptoCard

/-- THE SECOND FORM's CARD OF 'rilllaw09.MetaSums'. -/
def metaSumsUptoCard : Claim7 := { stood := { row := metaSumsUptoRow, standIns := [], harness := (true, "453020cce7e4f0051b86488955aa6b6eb52425c3e599456db7a5ca8418f7768c"), looks := false }, kinds := [], alts := [], laidByText := true, laidKinds := [.data, .data], laidTests := true, laidLooks := .later }
def MetaSumsUptoCardSaid : Prop := Claim7.holds Tryd.pinned (.plain (OpenSpec.upto metaSumsSpec)) metaSumsUptoCard
end Rows
end Go.Proofs.YthofndobmiamjaaDoor
