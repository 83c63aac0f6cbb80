/-
  meta.Encode and rillref09.Encode of any record.
-/
import Derived.Test.YtopnjjehefaghaaDoorMMeU
namespace Go.Proofs.YtopnjjehefaghaaDoor
open Go.RowKit

end Go.Proofs.YtopnjjehefaghaaDoor
