/-
  Pl3: PlB0 PlB4 PlB5 PlB6
-/
import Derived.Test.YtfjcbgfgiidogaaDoorMPl1
namespace Go.Proofs.YtfjcbgfgiidogaaDoor
open Go.RowKit
set_option linter.unusedVariables false

set_option maxRecDepth 10000 in
set_option maxHeartbeats 40000000 in
theorem refCheck_no0 (n u r c t s : Int) (w : World) (hu : -9223372036854775808 ≤ u ∧ u ≤ 9223372036854775807) (hr : -9223372036854775808 ≤ r ∧ r ≤ 9223372036854775807)  (b0 : n < 1) :
    Calls Tryd.prog 52 #[cfg n u r c t s] w fun e w' => e = .returned (.int .i64 130) ∧ Below w.heap.size w w' := by
  unfold cfg
  go_enter Tryd.func52, Tryd.ntmps52
  go_wp2
  go_ret
  exact ⟨rfl, (Below.refl _ _).alloc (Nat.le_refl _) _⟩

end Go.Proofs.YtfjcbgfgiidogaaDoor
namespace Go.Proofs.YtfjcbgfgiidogaaDoor
open Go.RowKit
set_option linter.unusedVariables false

set_option maxRecDepth 10000 in
set_option maxHeartbeats 40000000 in
theorem refCheck_no7 (n u r c t s : Int) (w : World) (hu : -9223372036854775808 ≤ u ∧ u ≤ 9223372036854775807) (hr : -9223372036854775808 ≤ r ∧ r ≤ 9223372036854775807) (a0 : 1 ≤ n) (a1 : n ≤ 8) (a2 : 1 ≤ u) (a3 : u ≤ n) (a4 : 1 ≤ r) (a5 : r ≤ n) (a6 : n < u + r) (b7 : c < 1) :
    Calls Tryd.prog 52 #[cfg n u r c t s] w fun e w' => e = .returned (.int .i64 130) ∧ Below w.heap.size w w' := by
  unfold cfg
  go_enter Tryd.func52, Tryd.ntmps52
  go_wp2
  go_ret
  exact ⟨rfl, (Below.refl _ _).alloc (Nat.le_refl _) _⟩

set_option maxRecDepth 10000 in
set_option maxHeartbeats 40000000 in
theorem refCheck_no8 (n u r c t s : Int) (w : World) (hu : -9223372036854775808 ≤ u ∧ u ≤ 9223372036854775807) (hr : -9223372036854775808 ≤ r ∧ r ≤ 9223372036854775807) (a0 : 1 ≤ n) (a1 : n ≤ 8) (a2 : 1 ≤ u) (a3 : u ≤ n) (a4 : 1 ≤ r) (a5 : r ≤ n) (a6 : n < u + r) (a7 : 1 ≤ c) (b8 : 4 < c) :
    Calls Tryd.prog 52 #[cfg n u r c t s] w fun e w' => e = .returned (.int .i64 130) ∧ Below w.heap.size w w' := by
  unfold cfg
  go_enter Tryd.func52, Tryd.ntmps52
  go_wp2
  go_ret
  exact ⟨rfl, (Below.refl _ _).alloc (Nat.le_refl _) _⟩

end Go.Proofs.YtfjcbgfgiidogaaDoor
namespace Go.Proofs.YtfjcbgfgiidogaaDoor
open Go.RowKit
set_option linter.unusedVariables false

set_option maxRecDepth 10000 in
set_option maxHeartbeats 40000000 in
theorem refCheck_no9 (n u r c t s : Int) (w : World) (hu : -9223372036854775808 ≤ u ∧ u ≤ 9223372036854775807) (hr : -9223372036854775808 ≤ r ∧ r ≤ 9223372036854775807) (a0 : 1 ≤ n) (a1 : n ≤ 8) (a2 : 1 ≤ u) (a3 : u ≤ n) (a4 : 1 ≤ r) (a5 : r ≤ n) (a6 : n < u + r) (a7 : 1 ≤ c) (a8 : c ≤ 4) (b9 : t < 1) :
    Calls Tryd.prog 52 #[cfg n u r c t s] w fun e w' => e = .returned (.int .i64 130) ∧ Below w.heap.size w w' := by
  unfold cfg
  go_enter Tryd.func52, Tryd.ntmps52
  go_wp2
  go_ret
  exact ⟨rfl, (Below.refl _ _).alloc (Nat.le_refl _) _⟩

set_option maxRecDepth 10000 in
set_option maxHeartbeats 40000000 in
theorem refCheck_no10 (n u r c t s : Int) (w : World) (hu : -9223372036854775808 ≤ u ∧ u ≤ 9223372036854775807) (hr : -9223372036854775808 ≤ r ∧ r ≤ 9223372036854775807) (a0 : 1 ≤ n) (a1 : n ≤ 8) (a2 : 1 ≤ u) (a3 : u ≤ n) (a4 : 1 ≤ r) (a5 : r ≤ n) (a6 : n < u + r) (a7 : 1 ≤ c) (a8 : c ≤ 4) (a9 : 1 ≤ t) (b10 : 64 < t) :
    Calls Tryd.prog 52 #[cfg n u r c t s] w fun e w' => e = .returned (.int .i64 130) ∧ Below w.heap.size w w' := by
  unfold cfg
  go_enter Tryd.func52, Tryd.ntmps52
  go_wp2
  go_ret
  exact ⟨rfl, (Below.refl _ _).alloc (Nat.le_refl _) _⟩

set_option maxRecDepth 10000 in
set_option maxHeartbeats 40000000 in
theorem refCheck_no11 (n u r c t s : Int) (w : World) (hu : -9223372036854775808 ≤ u ∧ u ≤ 9223372036854775807) (hr : -9223372036854775808 ≤ r ∧ r ≤ 9223372036854775807) (a0 : 1 ≤ n) (a1 : n ≤ 8) (a2 : 1 ≤ u) (a3 : u ≤ n) (a4 : 1 ≤ r) (a5 : r ≤ n) (a6 : n < u + r) (a7 : 1 ≤ c) (a8 : c ≤ 4) (a9 : 1 ≤ t) (a10 : t ≤ 64) (b11 : s < 1) :
    Calls Tryd.prog 52 #[cfg n u r c t s] w fun e w' => e = .returned (.int .i64 130) ∧ Below w.heap.size w w' := by
  unfold cfg
  go_enter Tryd.func52, Tryd.ntmps52
  go_wp2
  go_ret
  exact ⟨rfl, (Below.refl _ _).alloc (Nat.le_refl _) _⟩

end Go.Proofs.YtfjcbgfgiidogaaDoor
namespace Go.Proofs.YtfjcbgfgiidogaaDoor
open Go.RowKit
set_option linter.unusedVariables false

set_option maxRecDepth 10000 in
set_option maxHeartbeats 40000000 in
theorem refCheck_no12 (n u r c t s : Int) (w : World) (hu : -9223372036854775808 ≤ u ∧ u ≤ 9223372036854775807) (hr : -9223372036854775808 ≤ r ∧ r ≤ 9223372036854775807) (a0 : 1 ≤ n) (a1 : n ≤ 8) (a2 : 1 ≤ u) (a3 : u ≤ n) (a4 : 1 ≤ r) (a5 : r ≤ n) (a6 : n < u + r) (a7 : 1 ≤ c) (a8 : c ≤ 4) (a9 : 1 ≤ t) (a10 : t ≤ 64) (a11 : 1 ≤ s) (b12 : 512 < s) :
    Calls Tryd.prog 52 #[cfg n u r c t s] w fun e w' => e = .returned (.int .i64 130) ∧ Below w.heap.size w w' := by
  unfold cfg
  go_enter Tryd.func52, Tryd.ntmps52
  go_wp2
  go_ret
  exact ⟨rfl, (Below.refl _ _).alloc (Nat.le_refl _) _⟩

set_option maxRecDepth 10000 in
set_option maxHeartbeats 40000000 in
theorem refCheck_yes (n u r c t s : Int) (w : World) (hu : -9223372036854775808 ≤ u ∧ u ≤ 9223372036854775807) (hr : -9223372036854775808 ≤ r ∧ r ≤ 9223372036854775807) (a0 : 1 ≤ n) (a1 : n ≤ 8) (a2 : 1 ≤ u) (a3 : u ≤ n) (a4 : 1 ≤ r) (a5 : r ≤ n) (a6 : n < u + r) (a7 : 1 ≤ c) (a8 : c ≤ 4) (a9 : 1 ≤ t) (a10 : t ≤ 64) (a11 : 1 ≤ s) (a12 : s ≤ 512) :
    Calls Tryd.prog 52 #[cfg n u r c t s] w fun e w' => e = .returned (.int .i64 0) ∧ Below w.heap.size w w' := by
  unfold cfg
  go_enter Tryd.func52, Tryd.ntmps52
  go_wp2
  go_ret
  exact ⟨rfl, (Below.refl _ _).alloc (Nat.le_refl _) _⟩

end Go.Proofs.YtfjcbgfgiidogaaDoor
