/-
  rillref09: Earlier, Next, Later; tags appended; MetaTags.
-/
import Derived.Laws.AppendOwn
import Derived.Laws.OwnMore
import Derived.Test.YtopnjjehefaghaaDoorMMeJ
namespace Go.Proofs.YtopnjjehefaghaaDoor
open Go.RowKit



end Go.Proofs.YtopnjjehefaghaaDoor
