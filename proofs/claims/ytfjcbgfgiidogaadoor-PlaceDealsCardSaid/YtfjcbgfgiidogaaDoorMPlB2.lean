/-
  place: the reference's Check, 2.
-/
import Derived.Test.YtfjcbgfgiidogaaDoorMPl1
namespace Go.Proofs.YtfjcbgfgiidogaaDoor
open Go.RowKit
set_option linter.unusedVariables false

set_option maxRecDepth 10000 in
set_option maxHeartbeats 40000000 in
theorem refCheck_no3 (n u r c t s : Int) (w : World) (hu : -9223372036854775808 ≤ u ∧ u ≤ 9223372036854775807) (hr : -9223372036854775808 ≤ r ∧ r ≤ 9223372036854775807) (a0 : 1 ≤ n) (a1 : n ≤ 8) (a2 : 1 ≤ u) (b3 : n < u) :
    Calls Tryd.prog 52 #[cfg n u r c t s] w fun e w' => e = .returned (.int .i64 130) ∧ Below w.heap.size w w' := by
  unfold cfg
  go_enter Tryd.func52, Tryd.ntmps52
  go_wp2
  go_ret
  exact ⟨rfl, (Below.refl _ _).alloc (Nat.le_refl _) _⟩

set_option maxRecDepth 10000 in
set_option maxHeartbeats 40000000 in
theorem refCheck_no4 (n u r c t s : Int) (w : World) (hu : -9223372036854775808 ≤ u ∧ u ≤ 9223372036854775807) (hr : -9223372036854775808 ≤ r ∧ r ≤ 9223372036854775807) (a0 : 1 ≤ n) (a1 : n ≤ 8) (a2 : 1 ≤ u) (a3 : u ≤ n) (b4 : r < 1) :
    Calls Tryd.prog 52 #[cfg n u r c t s] w fun e w' => e = .returned (.int .i64 130) ∧ Below w.heap.size w w' := by
  unfold cfg
  go_enter Tryd.func52, Tryd.ntmps52
  go_wp2
  go_ret
  exact ⟨rfl, (Below.refl _ _).alloc (Nat.le_refl _) _⟩

end Go.Proofs.YtfjcbgfgiidogaaDoor
