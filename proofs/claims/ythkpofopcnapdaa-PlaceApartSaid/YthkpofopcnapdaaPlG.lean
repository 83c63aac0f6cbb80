/-
  place: what Owner refuses.
-/
import Derived.Test.YthkpofopcnapdaaPlF
namespace Go.Proofs.Ythkpofopcnapdaa
open Go.RowKit

set_option maxRecDepth 10000 in
set_option maxHeartbeats 4000000 in
theorem owner_badc (n u r c t s k e : Int) (w : World) (h : ¬ Good n u r c t s) (hu : -9223372036854775808 ≤ u ∧ u ≤ 9223372036854775807) (hr : -9223372036854775808 ≤ r ∧ r ≤ 9223372036854775807) :
    Calls Try.prog 15 #[cfg n u r c t s, .int .i64 k, .int .i64 e] w fun x w' => x = .returned (.tuple #[.int .i64 0, .int .i64 0, .int .i64 130]) ∧ Below w.heap.size w w' := by
  have HC := fun w => share_badc n u r c t s k w h hu hr
  unfold cfg at HC ⊢
  go_enter Try.func15, Try.ntmps15
  go_wp2_with (first
    | (go_at_call 8; (with_reducible refine (HC _).mono ?_); rintro e w1 ⟨rfl, hb1⟩; obtain ⟨hold, hbw, hold0, hbw0⟩ := after_call _ _ _ hb1; have c0 : w1.cell? ⟨w.heap.size, 0, none⟩ = some (.int .i64 n) := cell_of_row _ _ 0 _ _ _ hold0))
  go_ret3
  exact ⟨rfl, hbw0⟩

set_option maxRecDepth 10000 in
set_option maxHeartbeats 4000000 in
theorem owner_badk (n u r c t s k e : Int) (w : World) (h : Good n u r c t s) (hk : k < 1 ∨ 32 < k) :
    Calls Try.prog 15 #[cfg n u r c t s, .int .i64 k, .int .i64 e] w fun x w' => x = .returned (.tuple #[.int .i64 0, .int .i64 0, .int .i64 30]) ∧ Below w.heap.size w w' := by
  have HC := fun w => share_badk n u r c t s k w h hk
  unfold cfg at HC ⊢
  go_enter Try.func15, Try.ntmps15
  go_wp2_with (first
    | (go_at_call 8; (with_reducible refine (HC _).mono ?_); rintro e w1 ⟨rfl, hb1⟩; obtain ⟨hold, hbw, hold0, hbw0⟩ := after_call _ _ _ hb1; have c0 : w1.cell? ⟨w.heap.size, 0, none⟩ = some (.int .i64 n) := cell_of_row _ _ 0 _ _ _ hold0))
  go_ret3
  exact ⟨rfl, hbw0⟩

set_option maxRecDepth 10000 in
set_option maxHeartbeats 4000000 in
theorem owner_bade (n u r c t s k e : Int) (w : World) (h : Good n u r c t s) (hk : 1 ≤ k ∧ k ≤ 32) (he : e < 0 ∨ 16777215 < e) :
    Calls Try.prog 15 #[cfg n u r c t s, .int .i64 k, .int .i64 e] w fun x w' => x = .returned (.tuple #[.int .i64 0, .int .i64 0, .int .i64 40]) ∧ Below w.heap.size w w' := by
  have HC := fun w => share_good n u r c t s k w h hk
  unfold cfg at HC ⊢
  go_enter Try.func15, Try.ntmps15
  go_wp2_with (first
    | (go_at_call 8; (with_reducible refine (HC _).mono ?_); rintro e w1 ⟨rfl, hb1⟩; obtain ⟨hold, hbw, hold0, hbw0⟩ := after_call _ _ _ hb1; have c0 : w1.cell? ⟨w.heap.size, 0, none⟩ = some (.int .i64 n) := cell_of_row _ _ 0 _ _ _ hold0)
    | (go_at_call 18; (with_reducible refine (within_no _ _ _ _ ?hy).mono ?_); (case hy => omega); rintro e w' ⟨rfl, rfl⟩))
  go_ret3
  exact ⟨rfl, hbw0⟩

end Go.Proofs.Ythkpofopcnapdaa
