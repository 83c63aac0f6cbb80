/-
  place: Esis, what it refuses.
-/
import Derived.Test.YthkpofopcnapdaaPlG
import Derived.Test.YthkpofopcnapdaaUseI
namespace Go.Proofs.Ythkpofopcnapdaa
open Go.RowKit

set_option maxRecDepth 10000 in
set_option maxHeartbeats 4000000 in
theorem esis_badc (n u r c t s node k rd : Int) (w : World) (h : ¬ Good n u r c t s) (hu : -9223372036854775808 ≤ u ∧ u ≤ 9223372036854775807) (hr : -9223372036854775808 ≤ r ∧ r ≤ 9223372036854775807) :
    Calls Try.prog 12 #[cfg n u r c t s, .int .i64 node, .int .i64 k, .int .i64 rd] w fun x w' => x = .returned (.tuple #[.slice none 0 0, .int .i64 130]) ∧ Below w.heap.size w w' := by
  have HC := fun w => share_badc n u r c t s k w h hu hr
  unfold cfg at HC ⊢
  go_enter Try.func12, Try.ntmps12
  go_wp2_with (first
    | (go_at_call 8; (with_reducible refine (HC _).mono ?_); rintro e w1 ⟨rfl, hb1⟩; obtain ⟨hold, hbw, hold0, hbw0⟩ := after_call _ _ _ hb1; have c0 : w1.cell? ⟨w.heap.size, 0, none⟩ = some (.int .i64 n) := cell_of_row _ _ 0 _ _ _ hold0)
    | (go_at_call 18; (with_reducible refine (within_yes _ _ _ _ ?hy).mono ?_); (case hy => exact ⟨by omega, by omega⟩); rintro e w' ⟨rfl, rfl⟩)
    | (go_at_call 18; (with_reducible refine (within_no _ _ _ _ ?hy).mono ?_); (case hy => omega); rintro e w' ⟨rfl, rfl⟩))
  go_ret2
  exact ⟨rfl, hbw0⟩

set_option maxRecDepth 10000 in
set_option maxHeartbeats 4000000 in
theorem esis_badk (n u r c t s node k rd : Int) (w : World) (h : Good n u r c t s) (hk : k < 1 ∨ 32 < k) :
    Calls Try.prog 12 #[cfg n u r c t s, .int .i64 node, .int .i64 k, .int .i64 rd] w fun x w' => x = .returned (.tuple #[.slice none 0 0, .int .i64 30]) ∧ Below w.heap.size w w' := by
  have HC := fun w => share_badk n u r c t s k w h hk
  unfold cfg at HC ⊢
  go_enter Try.func12, Try.ntmps12
  go_wp2_with (first
    | (go_at_call 8; (with_reducible refine (HC _).mono ?_); rintro e w1 ⟨rfl, hb1⟩; obtain ⟨hold, hbw, hold0, hbw0⟩ := after_call _ _ _ hb1; have c0 : w1.cell? ⟨w.heap.size, 0, none⟩ = some (.int .i64 n) := cell_of_row _ _ 0 _ _ _ hold0)
    | (go_at_call 18; (with_reducible refine (within_yes _ _ _ _ ?hy).mono ?_); (case hy => exact ⟨by omega, by omega⟩); rintro e w' ⟨rfl, rfl⟩)
    | (go_at_call 18; (with_reducible refine (within_no _ _ _ _ ?hy).mono ?_); (case hy => omega); rintro e w' ⟨rfl, rfl⟩))
  go_ret2
  exact ⟨rfl, hbw0⟩

set_option maxRecDepth 10000 in
set_option maxHeartbeats 4000000 in
theorem esis_badn (n u r c t s node k rd : Int) (w : World) (h : Good n u r c t s) (hk : 1 ≤ k ∧ k ≤ 32) (hn : node < 0 ∨ n ≤ node) :
    Calls Try.prog 12 #[cfg n u r c t s, .int .i64 node, .int .i64 k, .int .i64 rd] w fun x w' => x = .returned (.tuple #[.slice none 0 0, .int .i64 120]) ∧ Below w.heap.size w w' := by
  have HC := fun w => share_good n u r c t s k w h hk
  obtain ⟨g0, g1, g2, g3, g4, g5, g6, g7, g8, g9, g10, g11, g12⟩ := (show _ ∧ _ from h)
  clear h
  unfold cfg at HC ⊢
  go_enter Try.func12, Try.ntmps12
  go_wp2_with (first
    | (go_at_call 8; (with_reducible refine (HC _).mono ?_); rintro e w1 ⟨rfl, hb1⟩; obtain ⟨hold, hbw, hold0, hbw0⟩ := after_call _ _ _ hb1; have c0 : w1.cell? ⟨w.heap.size, 0, none⟩ = some (.int .i64 n) := cell_of_row _ _ 0 _ _ _ hold0)
    | (go_at_call 18; (with_reducible refine (within_yes _ _ _ _ ?hy).mono ?_); (case hy => exact ⟨by omega, by omega⟩); rintro e w' ⟨rfl, rfl⟩)
    | (go_at_call 18; (with_reducible refine (within_no _ _ _ _ ?hy).mono ?_); (case hy => omega); rintro e w' ⟨rfl, rfl⟩))
  go_ret2
  exact ⟨rfl, hbw0⟩

set_option maxRecDepth 10000 in
set_option maxHeartbeats 4000000 in
theorem esis_late (n u r c t s node k rd : Int) (w : World) (h : Good n u r c t s) (hk : 1 ≤ k ∧ k ≤ 32) (hn : 0 ≤ node ∧ node < n) (hr : rd < 0 ∨ 100000 < rd) :
    Calls Try.prog 12 #[cfg n u r c t s, .int .i64 node, .int .i64 k, .int .i64 rd] w fun x w' => x = .returned (.tuple #[.slice none 0 0, .int .i64 40]) ∧ Below w.heap.size w w' := by
  have HC := fun w => share_good n u r c t s k w h hk
  obtain ⟨g0, g1, g2, g3, g4, g5, g6, g7, g8, g9, g10, g11, g12⟩ := (show _ ∧ _ from h)
  clear h
  obtain ⟨n0, n1⟩ := hn
  unfold cfg at HC ⊢
  go_enter Try.func12, Try.ntmps12
  go_wp2_with (first
    | (go_at_call 8; (with_reducible refine (HC _).mono ?_); rintro e w1 ⟨rfl, hb1⟩; obtain ⟨hold, hbw, hold0, hbw0⟩ := after_call _ _ _ hb1; have c0 : w1.cell? ⟨w.heap.size, 0, none⟩ = some (.int .i64 n) := cell_of_row _ _ 0 _ _ _ hold0)
    | (go_at_call 18; (with_reducible refine (within_yes _ _ _ _ ?hy).mono ?_); (case hy => exact ⟨by omega, by omega⟩); rintro e w' ⟨rfl, rfl⟩)
    | (go_at_call 18; (with_reducible refine (within_no _ _ _ _ ?hy).mono ?_); (case hy => omega); rintro e w' ⟨rfl, rfl⟩))
  go_ret2
  exact ⟨rfl, hbw0⟩

end Go.Proofs.Ythkpofopcnapdaa
