/-
  meta: the laws' 'alive'.
-/
import Derived.Test.YtopnjjehefaghaaDoorMMeG
namespace Go.Proofs.YtopnjjehefaghaaDoor
open Go.RowKit

end Go.Proofs.YtopnjjehefaghaaDoor
