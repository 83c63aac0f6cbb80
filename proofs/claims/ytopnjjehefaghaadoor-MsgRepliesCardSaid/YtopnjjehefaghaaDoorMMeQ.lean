/-
  meta: the writer's texts, with what is written.
-/
import Derived.Test.YtopnjjehefaghaaDoorMMeP
namespace Go.Proofs.YtopnjjehefaghaaDoor
open Go.RowKit

theorem numL_one (n : Nat) : numL n 1 = [n % 256] := by simp [numL, numTo]
end Go.Proofs.YtopnjjehefaghaaDoor
