/-
  rillref09: Earlier, Next, Later; tags appended; MetaTags.
-/
import Derived.Test.YthofndobmiamjaaDoorMeJ
import Derived.Laws.AppendOwn
import Derived.Laws.OwnMore
namespace Go.Proofs.YthofndobmiamjaaDoor
open Go.RowKit



end Go.Proofs.YthofndobmiamjaaDoor
