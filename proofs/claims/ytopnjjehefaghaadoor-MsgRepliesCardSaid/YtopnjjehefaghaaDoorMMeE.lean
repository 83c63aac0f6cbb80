/-
  meta: the writer's texts; Encode.
-/
import Derived.Test.YtopnjjehefaghaaDoorMMeD
namespace Go.Proofs.YtopnjjehefaghaaDoor
open Go.RowKit


end Go.Proofs.YtopnjjehefaghaaDoor
