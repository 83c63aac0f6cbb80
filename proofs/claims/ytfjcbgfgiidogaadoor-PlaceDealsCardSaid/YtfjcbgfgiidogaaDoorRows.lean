/-
  NARROWER THAN 'FOR EVERY INPUT', by the rows' own cells (each row's printed sentence says how): ChunkParts: laid · ChunkSymbols: laid · ChunkGathers: laid · ChunkRound: laid · ChunkCounts: laid · ChunkSources: laid · ChunkMemory: laid · ChunkMore: laid · ChunkApart: laid · PlaceDeals: laid · PlaceMeets: laid.
  DERIVED. THE GIVEN ROWS OF THIS SEAT. 11 by the template 'for every input the law returns true; each argument reads behind the call as it read before'; 0 by the template 'total and deterministic' (their statements: YtfjcbgfgiidogaaDoorTotals.lean).
  GIVEN WITH THE SEED: the statements are not yours to turn. If you find one false, say at which input.
  Laid BY PROGRAM, IN A SANDBOX (cutbox-rows.mjs): the forced cells as the released guide's own fill.sh prints them over the translation 194493b9e1c464b2… (all of the seat's roots in one cut). By AI agents, Wed Nov 11 2026. No macro, syntax, notation, axiom, sorry.
-/
import Derived.Test.YtfjcbgfgiidogaaDoorChecked
import GoSem.Claim
import GoSem.ClaimJoined
import GoSem.ClaimMapViews
import Derived.JoinedTies
import Derived.KernelRfl
namespace Go.Proofs.YtfjcbgfgiidogaaDoor
/- THE CELL 'sum', in the pinned program and in every row, IS THE sha256 OF THE DUMP (.gsa) THAT YtfjcbgfgiidogaaDoorProg.lean LOADS. Nothing in Lean hashes anything: it is a label: what it is worth is what the hold of that sum in a sandbox is worth. -/
noncomputable def Tryd.pinned : Pinned := { name := "ytfjcbgfgiidogaadoor", sum := "194493b9e1c464b287bc958aa481ee558dadeb9de37c33e432ba738bcef74094", checked := Tryd.checked }
namespace Rows
def none {H : Type} : Left H := { results := [], args := [] }

/- WHAT THE LISTED PACKAGE-LEVEL VARIABLES READ AS WHEN THE CALL BEGINS. Each datum BY PROGRAM (the guide's laid-datum.mjs) off the statement by which the dump's own 'gosem.cut.vars' lays the variable. In a bare row this is a premise. The card (YtfjcbgfgiidogaaDoorCards.lean) ties it to the program's text. -/
def laid_rill_tuple_bounds {H : Type} : DataW H := .agg [.lit (.int .i64 5243), .lit (.int .i64 529531), .lit (.int .i64 704294), .lit (.int .i64 791675), .lit (.int .i64 844104), .lit (.int .i64 879057), .lit (.int .i64 904023), .lit (.int .i64 922747), .lit (.int .i64 937311), .lit (.int .i64 948962), .lit (.int .i64 958494), .lit (.int .i64 966438), .lit (.int .i64 973160), .lit (.int .i64 978921), .lit (.int .i64 983914), .lit (.int .i64 988283), .lit (.int .i64 992138), .lit (.int .i64 995565), .lit (.int .i64 998631), .lit (.int .i64 1001391), .lit (.int .i64 1003887), .lit (.int .i64 1006157), .lit (.int .i64 1008229), .lit (.int .i64 1010129), .lit (.int .i64 1011876), .lit (.int .i64 1013490), .lit (.int .i64 1014983), .lit (.int .i64 1016370), .lit (.int .i64 1017662), .lit (.int .i64 1048576)]

/-- 'rilllaw05.ChunkParts': WHATEVER THE INPUT: true; the input reads as it did. -/
def chunkPartsSpec : ChangeSpec := { name := "chunkParts", fn := fun _ => fun
  | [d1, d2, d3] => { results := [.lit (.bool true)], args := [d1, d2, d3] }
  | _ => none }
def chunkPartsRow : OpenClaim := { program := "ytfjcbgfgiidogaadoor", sum := "194493b9e1c464b287bc958aa481ee558dadeb9de37c33e432ba738bcef74094", func := "rill/rilllaw05.ChunkParts", spec := "chunkParts", unfollowed := true, recurses := true, named := ["rill/tuple.bounds"], apart := false, laid := [("rill/tuple.bounds", laid_rill_tuple_bounds)] }
def ChunkPartsSaid : Prop := chunkPartsRow.holds Tryd.pinned (OpenSpec.ofChange chunkPartsSpec)

/-- ITS FALSE NEIGHBOUR: 'it returns false'. Refute it at one input. -/
def chunkPartsWrong : ChangeSpec := { name := "chunkParts", fn := fun _ => fun
  | [d1, d2, d3] => { results := [.lit (.bool false)], args := [d1, d2, d3] }
  | _ => none }
def ChunkPartsWrongFalsely : Prop := chunkPartsRow.holds Tryd.pinned (OpenSpec.ofChange chunkPartsWrong)

/-- 'rilllaw05.ChunkSymbols': WHATEVER THE INPUT: true; the input reads as it did. -/
def chunkSymbolsSpec : ChangeSpec := { name := "chunkSymbols", fn := fun _ => fun
  | [d1, d2, d3, d4] => { results := [.lit (.bool true)], args := [d1, d2, d3, d4] }
  | _ => none }
def chunkSymbolsRow : OpenClaim := { program := "ytfjcbgfgiidogaadoor", sum := "194493b9e1c464b287bc958aa481ee558dadeb9de37c33e432ba738bcef74094", func := "rill/rilllaw05.ChunkSymbols", spec := "chunkSymbols", unfollowed := true, recurses := true, named := ["rill/tuple.bounds"], apart := false, laid := [("rill/tuple.bounds", laid_rill_tuple_bounds)] }
def ChunkSymbolsSaid : Prop := chunkSymbolsRow.holds Tryd.pinned (OpenSpec.ofChange chunkSymbolsSpec)

/-- ITS FALSE NEIGHBOUR: 'it returns false'. Refute it at one input. -/
def chunkSymbolsWrong : ChangeSpec := { name := "chunkSymbols", fn := fun _ => fun
  | [d1, d2, d3, d4] => { results := [.lit (.bool false)], args := [d1, d2, d3, d4] }
  | _ => none }
def ChunkSymbolsWrongFalsely : Prop := chunkSymbolsRow.holds Tryd.pinned (OpenSpec.ofChange chunkSymbolsWrong)

/-- 'rilllaw05.ChunkGathers': WHATEVER THE INPUT: true; the input reads as it did. -/
def chunkGathersSpec : ChangeSpec := { name := "chunkGathers", fn := fun _ => fun
  | [d1, d2, d3] => { results := [.lit (.bool true)], args := [d1, d2, d3] }
  | _ => none }
def chunkGathersRow : OpenClaim := { program := "ytfjcbgfgiidogaadoor", sum := "194493b9e1c464b287bc958aa481ee558dadeb9de37c33e432ba738bcef74094", func := "rill/rilllaw05.ChunkGathers", spec := "chunkGathers", unfollowed := true, recurses := true, named := ["rill/tuple.bounds"], apart := false, laid := [("rill/tuple.bounds", laid_rill_tuple_bounds)] }
def ChunkGathersSaid : Prop := chunkGathersRow.holds Tryd.pinned (OpenSpec.ofChange chunkGathersSpec)

/-- ITS FALSE NEIGHBOUR: 'it returns false'. Refute it at one input. -/
def chunkGathersWrong : ChangeSpec := { name := "chunkGathers", fn := fun _ => fun
  | [d1, d2, d3] => { results := [.lit (.bool false)], args := [d1, d2, d3] }
  | _ => none }
def ChunkGathersWrongFalsely : Prop := chunkGathersRow.holds Tryd.pinned (OpenSpec.ofChange chunkGathersWrong)

/-- 'rilllaw05.ChunkRound': WHATEVER THE INPUT: true; the input reads as it did. -/
def chunkRoundSpec : ChangeSpec := { name := "chunkRound", fn := fun _ => fun
  | [d1, d2, d3] => { results := [.lit (.bool true)], args := [d1, d2, d3] }
  | _ => none }
def chunkRoundRow : OpenClaim := { program := "ytfjcbgfgiidogaadoor", sum := "194493b9e1c464b287bc958aa481ee558dadeb9de37c33e432ba738bcef74094", func := "rill/rilllaw05.ChunkRound", spec := "chunkRound", unfollowed := true, recurses := true, named := ["rill/tuple.bounds"], apart := false, laid := [("rill/tuple.bounds", laid_rill_tuple_bounds)] }
def ChunkRoundSaid : Prop := chunkRoundRow.holds Tryd.pinned (OpenSpec.ofChange chunkRoundSpec)

/-- ITS FALSE NEIGHBOUR: 'it returns false'. Refute it at one input. -/
def chunkRoundWrong : ChangeSpec := { name := "chunkRound", fn := fun _ => fun
  | [d1, d2, d3] => { results := [.lit (.bool false)], args := [d1, d2, d3] }
  | _ => none }
def ChunkRoundWrongFalsely : Prop := chunkRoundRow.holds Tryd.pinned (OpenSpec.ofChange chunkRoundWrong)

/-- 'rilllaw05.ChunkCounts': WHATEVER THE INPUT: true; the input reads as it did. -/
def chunkCountsSpec : ChangeSpec := { name := "chunkCounts", fn := fun _ => fun
  | [d1, d2] => { results := [.lit (.bool true)], args := [d1, d2] }
  | _ => none }
def chunkCountsRow : OpenClaim := { program := "ytfjcbgfgiidogaadoor", sum := "194493b9e1c464b287bc958aa481ee558dadeb9de37c33e432ba738bcef74094", func := "rill/rilllaw05.ChunkCounts", spec := "chunkCounts", unfollowed := true, recurses := true, named := ["rill/tuple.bounds"], apart := false, laid := [("rill/tuple.bounds", laid_rill_tuple_bounds)] }
def ChunkCountsSaid : Prop := chunkCountsRow.holds Tryd.pinned (OpenSpec.ofChange chunkCountsSpec)

/-- ITS FALSE NEIGHBOUR: 'it returns false'. Refute it at one input. -/
def chunkCountsWrong : ChangeSpec := { name := "chunkCounts", fn := fun _ => fun
  | [d1, d2] => { results := [.lit (.bool false)], args := [d1, d2] }
  | _ => none }
def ChunkCountsWrongFalsely : Prop := chunkCountsRow.holds Tryd.pinned (OpenSpec.ofChange chunkCountsWrong)

/-- 'rilllaw05.ChunkSources': WHATEVER THE INPUT: true; the input reads as it did. -/
def chunkSourcesSpec : ChangeSpec := { name := "chunkSources", fn := fun _ => fun
  | [d1, d2] => { results := [.lit (.bool true)], args := [d1, d2] }
  | _ => none }
def chunkSourcesRow : OpenClaim := { program := "ytfjcbgfgiidogaadoor", sum := "194493b9e1c464b287bc958aa481ee558dadeb9de37c33e432ba738bcef74094", func := "rill/rilllaw05.ChunkSources", spec := "chunkSources", unfollowed := true, recurses := true, named := ["rill/tuple.bounds"], apart := false, laid := [("rill/tuple.bounds", laid_rill_tuple_bounds)] }
def ChunkSourcesSaid : Prop := chunkSourcesRow.holds Tryd.pinned (OpenSpec.ofChange chunkSourcesSpec)

/-- ITS FALSE NEIGHBOUR: 'it returns false'. Refute it at one input. -/
def chunkSourcesWrong : ChangeSpec := { name := "chunkSources", fn := fun _ => fun
  | [d1, d2] => { results := [.lit (.bool false)], args := [d1, d2] }
  | _ => none }
def ChunkSourcesWrongFalsely : Prop := chunkSourcesRow.holds Tryd.pinned (OpenSpec.ofChange chunkSourcesWrong)

/-- 'rilllaw05.ChunkMemory': WHATEVER THE INPUT: true; the input reads as it did. -/
def chunkMemorySpec : ChangeSpec := { name := "chunkMemory", fn := fun _ => fun
  | [d1, d2] => { results := [.lit (.bool true)], args := [d1, d2] }
  | _ => none }
def chunkMemoryRow : OpenClaim := { program := "ytfjcbgfgiidogaadoor", sum := "194493b9e1c464b287bc958aa481ee558dadeb9de37c33e432ba738bcef74094", func := "rill/rilllaw05.ChunkMemory", spec := "chunkMemory", unfollowed := true, recurses := true, named := ["rill/tuple.bounds"], apart := false, laid := [("rill/tuple.bounds", laid_rill_tuple_bounds)] }
def ChunkMemorySaid : Prop := chunkMemoryRow.holds Tryd.pinned (OpenSpec.ofChange chunkMemorySpec)

/-- ITS FALSE NEIGHBOUR: 'it returns false'. Refute it at one input. -/
def chunkMemoryWrong : ChangeSpec := { name := "chunkMemory", fn := fun _ => fun
  | [d1, d2] => { results := [.lit (.bool false)], args := [d1, d2] }
  | _ => none }
def ChunkMemoryWrongFalsely : Prop := chunkMemoryRow.holds Tryd.pinned (OpenSpec.ofChange chunkMemoryWrong)

/-- 'rilllaw05.ChunkMore': WHATEVER THE INPUT: true; the input reads as it did. -/
def chunkMoreSpec : ChangeSpec := { name := "chunkMore", fn := fun _ => fun
  | [d1, d2, d3] => { results := [.lit (.bool true)], args := [d1, d2, d3] }
  | _ => none }
def chunkMoreRow : OpenClaim := { program := "ytfjcbgfgiidogaadoor", sum := "194493b9e1c464b287bc958aa481ee558dadeb9de37c33e432ba738bcef74094", func := "rill/rilllaw05.ChunkMore", spec := "chunkMore", unfollowed := true, recurses := true, named := ["rill/tuple.bounds"], apart := false, laid := [("rill/tuple.bounds", laid_rill_tuple_bounds)] }
def ChunkMoreSaid : Prop := chunkMoreRow.holds Tryd.pinned (OpenSpec.ofChange chunkMoreSpec)

/-- ITS FALSE NEIGHBOUR: 'it returns false'. Refute it at one input. -/
def chunkMoreWrong : ChangeSpec := { name := "chunkMore", fn := fun _ => fun
  | [d1, d2, d3] => { results := [.lit (.bool false)], args := [d1, d2, d3] }
  | _ => none }
def ChunkMoreWrongFalsely : Prop := chunkMoreRow.holds Tryd.pinned (OpenSpec.ofChange chunkMoreWrong)

/-- 'rilllaw05.ChunkApart': WHATEVER THE INPUT: true; the input reads as it did. -/
def chunkApartSpec : ChangeSpec := { name := "chunkApart", fn := fun _ => fun
  | [d1, d2, d3, d4, d5] => { results := [.lit (.bool true)], args := [d1, d2, d3, d4, d5] }
  | _ => none }
def chunkApartRow : OpenClaim := { program := "ytfjcbgfgiidogaadoor", sum := "194493b9e1c464b287bc958aa481ee558dadeb9de37c33e432ba738bcef74094", func := "rill/rilllaw05.ChunkApart", spec := "chunkApart", unfollowed := true, recurses := true, named := ["rill/tuple.bounds"], apart := false, laid := [("rill/tuple.bounds", laid_rill_tuple_bounds)] }
def ChunkApartSaid : Prop := chunkApartRow.holds Tryd.pinned (OpenSpec.ofChange chunkApartSpec)

/-- ITS FALSE NEIGHBOUR: 'it returns false'. Refute it at one input. -/
def chunkApartWrong : ChangeSpec := { name := "chunkApart", fn := fun _ => fun
  | [d1, d2, d3, d4, d5] => { results := [.lit (.bool false)], args := [d1, d2, d3, d4, d5] }
  | _ => none }
def ChunkApartWrongFalsely : Prop := chunkApartRow.holds Tryd.pinned (OpenSpec.ofChange chunkApartWrong)

/-- 'rilllaw13.PlaceDeals': WHATEVER THE INPUT: true; the input reads as it did. -/
def placeDealsSpec : ChangeSpec := { name := "placeDeals", fn := fun _ => fun
  | [d1, d2] => { results := [.lit (.bool true)], args := [d1, d2] }
  | _ => none }
def placeDealsRow : OpenClaim := { program := "ytfjcbgfgiidogaadoor", sum := "194493b9e1c464b287bc958aa481ee558dadeb9de37c33e432ba738bcef74094", func := "rill/rilllaw13.PlaceDeals", spec := "placeDeals", unfollowed := true, recurses := true, named := ["rill/tuple.bounds"], apart := false, laid := [("rill/tuple.bounds", laid_rill_tuple_bounds)] }
def PlaceDealsSaid : Prop := placeDealsRow.holds Tryd.pinned (OpenSpec.ofChange placeDealsSpec)

/-- ITS FALSE NEIGHBOUR: 'it returns false'. Refute it at one input. -/
def placeDealsWrong : ChangeSpec := { name := "placeDeals", fn := fun _ => fun
  | [d1, d2] => { results := [.lit (.bool false)], args := [d1, d2] }
  | _ => none }
def PlaceDealsWrongFalsely : Prop := placeDealsRow.holds Tryd.pinned (OpenSpec.ofChange placeDealsWrong)

/-- 'rilllaw13.PlaceMeets': WHATEVER THE INPUT: true; the input reads as it did. -/
def placeMeetsSpec : ChangeSpec := { name := "placeMeets", fn := fun _ => fun
  | [d1, d2, d3] => { results := [.lit (.bool true)], args := [d1, d2, d3] }
  | _ => none }
def placeMeetsRow : OpenClaim := { program := "ytfjcbgfgiidogaadoor", sum := "194493b9e1c464b287bc958aa481ee558dadeb9de37c33e432ba738bcef74094", func := "rill/rilllaw13.PlaceMeets", spec := "placeMeets", unfollowed := true, recurses := true, named := ["rill/tuple.bounds"], apart := false, laid := [("rill/tuple.bounds", laid_rill_tuple_bounds)] }
def PlaceMeetsSaid : Prop := placeMeetsRow.holds Tryd.pinned (OpenSpec.ofChange placeMeetsSpec)

/-- ITS FALSE NEIGHBOUR: 'it returns false'. Refute it at one input. -/
def placeMeetsWrong : ChangeSpec := { name := "placeMeets", fn := fun _ => fun
  | [d1, d2, d3] => { results := [.lit (.bool false)], args := [d1, d2, d3] }
  | _ => none }
def PlaceMeetsWrongFalsely : Prop := placeMeetsRow.holds Tryd.pinned (OpenSpec.ofChange placeMeetsWrong)

/- THE SECOND FORM. 'bulk': how many values and letters a reading holds, each counted each time it is reached (what is shared counts as often as it is met; a slice's spare places count too). A statement '..UptoSaid' is the law's where the arguments, and the package variables that the reading takes, are together of bulk at most 1048576: NARROWER than '..Said'. Prove '..Said' where nothing that the law and all that it calls make is longer than what came in: it says more and counts as full. Else prove '..UptoSaid'. A law counts once. -/
mutual
def uptoBulk {H : Type} : DataW H → Nat
  | .lit (.string bytes) => bytes.length + 1
  | .lit _ => 1
  | .nil => 1
  | .ptr d => uptoBulk d + 1
  | .slice elems spare => uptoBulkAll elems + uptoBulkAll spare + 1
  | .agg parts => uptoBulkAll parts + 1
  | .iface _ d => uptoBulk d + 1
  | .map entries => uptoBulkEntries entries + 1
  | .held _ => 1
def uptoBulkAll {H : Type} : List (DataW H) → Nat
  | [] => 0
  | d :: r => uptoBulk d + uptoBulkAll r
def uptoBulkEntries {H : Type} : List (Lit × DataW H) → Nat
  | [] => 0
  | x :: r => uptoBulkEntry x + uptoBulkEntries r
def uptoBulkEntry {H : Type} : Lit × DataW H → Nat
  | (.string bytes, d) => bytes.length + uptoBulk d + 1
  | (_, d) => uptoBulk d + 1
 end
def uptoSmall : (H : Type) → List (DataW H) → Bool := fun _ ds => decide (uptoBulkAll ds ≤ 1048576)
def OpenSpec.upto (s : _root_.Go.ChangeSpec) : _root_.Go.OpenSpec := { _root_.Go.OpenSpec.ofChange s with cond := some uptoSmall }

/-- 'rilllaw05.ChunkParts', WHERE WHAT IT READS IS OF BULK AT MOST 1048576: true; the input reads as it did. -/
def chunkPartsUptoRow : OpenClaim := { program := "ytfjcbgfgiidogaadoor", sum := "194493b9e1c464b287bc958aa481ee558dadeb9de37c33e432ba738bcef74094", func := "rill/rilllaw05.ChunkParts", spec := "chunkParts", unfollowed := true, recurses := true, named := ["rill/tuple.bounds"], apart := false, laid := [("rill/tuple.bounds", laid_rill_tuple_bounds)], narrowed := true }
def ChunkPartsUptoSaid : Prop := chunkPartsUptoRow.holds Tryd.pinned (OpenSpec.upto chunkPartsSpec)

/-- 'rilllaw05.ChunkSymbols', WHERE WHAT IT READS IS OF BULK AT MOST 1048576: true; the input reads as it did. -/
def chunkSymbolsUptoRow : OpenClaim := { program := "ytfjcbgfgiidogaadoor", sum := "194493b9e1c464b287bc958aa481ee558dadeb9de37c33e432ba738bcef74094", func := "rill/rilllaw05.ChunkSymbols", spec := "chunkSymbols", unfollowed := true, recurses := true, named := ["rill/tuple.bounds"], apart := false, laid := [("rill/tuple.bounds", laid_rill_tuple_bounds)], narrowed := true }
def ChunkSymbolsUptoSaid : Prop := chunkSymbolsUptoRow.holds Tryd.pinned (OpenSpec.upto chunkSymbolsSpec)

/-- 'rilllaw05.ChunkGathers', WHERE WHAT IT READS IS OF BULK AT MOST 1048576: true; the input reads as it did. -/
def chunkGathersUptoRow : OpenClaim := { program := "ytfjcbgfgiidogaadoor", sum := "194493b9e1c464b287bc958aa481ee558dadeb9de37c33e432ba738bcef74094", func := "rill/rilllaw05.ChunkGathers", spec := "chunkGathers", unfollowed := true, recurses := true, named := ["rill/tuple.bounds"], apart := false, laid := [("rill/tuple.bounds", laid_rill_tuple_bounds)], narrowed := true }
def ChunkGathersUptoSaid : Prop := chunkGathersUptoRow.holds Tryd.pinned (OpenSpec.upto chunkGathersSpec)

/-- 'rilllaw05.ChunkRound', WHERE WHAT IT READS IS OF BULK AT MOST 1048576: true; the input reads as it did. -/
def chunkRoundUptoRow : OpenClaim := { program := "ytfjcbgfgiidogaadoor", sum := "194493b9e1c464b287bc958aa481ee558dadeb9de37c33e432ba738bcef74094", func := "rill/rilllaw05.ChunkRound", spec := "chunkRound", unfollowed := true, recurses := true, named := ["rill/tuple.bounds"], apart := false, laid := [("rill/tuple.bounds", laid_rill_tuple_bounds)], narrowed := true }
def ChunkRoundUptoSaid : Prop := chunkRoundUptoRow.holds Tryd.pinned (OpenSpec.upto chunkRoundSpec)

/-- 'rilllaw05.ChunkCounts', WHERE WHAT IT READS IS OF BULK AT MOST 1048576: true; the input reads as it did. -/
def chunkCountsUptoRow : OpenClaim := { program := "ytfjcbgfgiidogaadoor", sum := "194493b9e1c464b287bc958aa481ee558dadeb9de37c33e432ba738bcef74094", func := "rill/rilllaw05.ChunkCounts", spec := "chunkCounts", unfollowed := true, recurses := true, named := ["rill/tuple.bounds"], apart := false, laid := [("rill/tuple.bounds", laid_rill_tuple_bounds)], narrowed := true }
def ChunkCountsUptoSaid : Prop := chunkCountsUptoRow.holds Tryd.pinned (OpenSpec.upto chunkCountsSpec)

/-- 'rilllaw05.ChunkSources', WHERE WHAT IT READS IS OF BULK AT MOST 1048576: true; the input reads as it did. -/
def chunkSourcesUptoRow : OpenClaim := { program := "ytfjcbgfgiidogaadoor", sum := "194493b9e1c464b287bc958aa481ee558dadeb9de37c33e432ba738bcef74094", func := "rill/rilllaw05.ChunkSources", spec := "chunkSources", unfollowed := true, recurses := true, named := ["rill/tuple.bounds"], apart := false, laid := [("rill/tuple.bounds", laid_rill_tuple_bounds)], narrowed := true }
def ChunkSourcesUptoSaid : Prop := chunkSourcesUptoRow.holds Tryd.pinned (OpenSpec.upto chunkSourcesSpec)

/-- 'rilllaw05.ChunkMemory', WHERE WHAT IT READS IS OF BULK AT MOST 1048576: true; the input reads as it did. -/
def chunkMemoryUptoRow : OpenClaim := { program := "ytfjcbgfgiidogaadoor", sum := "194493b9e1c464b287bc958aa481ee558dadeb9de37c33e432ba738bcef74094", func := "rill/rilllaw05.ChunkMemory", spec := "chunkMemory", unfollowed := true, recurses := true, named := ["rill/tuple.bounds"], apart := false, laid := [("rill/tuple.bounds", laid_rill_tuple_bounds)], narrowed := true }
def ChunkMemoryUptoSaid : Prop := chunkMemoryUptoRow.holds Tryd.pinned (OpenSpec.upto chunkMemorySpec)

/-- 'rilllaw05.ChunkMore', WHERE WHAT IT READS IS OF BULK AT MOST 1048576: true; the input reads as it did. -/
def chunkMoreUptoRow : OpenClaim := { program := "ytfjcbgfgiidogaadoor", sum := "194493b9e1c464b287bc958aa481ee558dadeb9de37c33e432ba738bcef74094", func := "rill/rilllaw05.ChunkMore", spec := "chunkMore", unfollowed := true, recurses := true, named := ["rill/tuple.bounds"], apart := false, laid := [("rill/tuple.bounds", laid_rill_tuple_bounds)], narrowed := true }
def ChunkMoreUptoSaid : Prop := chunkMoreUptoRow.holds Tryd.pinned (OpenSpec.upto chunkMoreSpec)

/-- 'rilllaw05.ChunkApart', WHERE WHAT IT READS IS OF BULK AT MOST 1048576: true; the input reads as it did. -/
def chunkApartUptoRow : OpenClaim := { program := "ytfjcbgfgiidogaadoor", sum := "194493b9e1c464b287bc958aa481ee558dadeb9de37c33e432ba738bcef74094", func := "rill/rilllaw05.ChunkApart", spec := "chunkApart", unfollowed := true, recurses := true, named := ["rill/tuple.bounds"], apart := false, laid := [("rill/tuple.bounds", laid_rill_tuple_bounds)], narrowed := true }
def ChunkApartUptoSaid : Prop := chunkApartUptoRow.holds Tryd.pinned (OpenSpec.upto chunkApartSpec)

/-- 'rilllaw13.PlaceDeals', WHERE WHAT IT READS IS OF BULK AT MOST 1048576: true; the input reads as it did. -/
def placeDealsUptoRow : OpenClaim := { program := "ytfjcbgfgiidogaadoor", sum := "194493b9e1c464b287bc958aa481ee558dadeb9de37c33e432ba738bcef74094", func := "rill/rilllaw13.PlaceDeals", spec := "placeDeals", unfollowed := true, recurses := true, named := ["rill/tuple.bounds"], apart := false, laid := [("rill/tuple.bounds", laid_rill_tuple_bounds)], narrowed := true }
def PlaceDealsUptoSaid : Prop := placeDealsUptoRow.holds Tryd.pinned (OpenSpec.upto placeDealsSpec)

/-- 'rilllaw13.PlaceMeets', WHERE WHAT IT READS IS OF BULK AT MOST 1048576: true; the input reads as it did. -/
def placeMeetsUptoRow : OpenClaim := { program := "ytfjcbgfgiidogaadoor", sum := "194493b9e1c464b287bc958aa481ee558dadeb9de37c33e432ba738bcef74094", func := "rill/rilllaw13.PlaceMeets", spec := "placeMeets", unfollowed := true, recurses := true, named := ["rill/tuple.bounds"], apart := false, laid := [("rill/tuple.bounds", laid_rill_tuple_bounds)], narrowed := true }
def PlaceMeetsUptoSaid : Prop := placeMeetsUptoRow.holds Tryd.pinned (OpenSpec.upto placeMeetsSpec)

end Rows
end Go.Proofs.YtfjcbgfgiidogaaDoor
