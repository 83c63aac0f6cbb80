/-
  place: check_any.
-/
import Derived.Test.YthkpofopcnapdaaPlA
namespace Go.Proofs.Ythkpofopcnapdaa
open Go.RowKit

set_option maxRecDepth 10000 in
set_option maxHeartbeats 40000000 in
theorem check_any (n u r c t s : Int) (w : World) (hu : -9223372036854775808 ≤ u ∧ u ≤ 9223372036854775807) (hr : -9223372036854775808 ≤ r ∧ r ≤ 9223372036854775807) :
    Calls Try.prog 10 #[cfg n u r c t s] w fun e w' => e = .returned (.int .i64 (chk n u r c t s)) ∧ Below w.heap.size w w' := by
  unfold cfg
  by_cases a0 : 1 ≤ n
  rotate_left 1
  · have b0 : n < 1 := by omega
    clear a0
    go_enter Try.func10, Try.ntmps10
    go_wp2_with (first
    | (go_at_call 18; (with_reducible refine (within_yes _ _ _ _ ?hy).mono ?_); (case hy => exact ⟨by omega, by omega⟩); rintro e w' ⟨rfl, rfl⟩)
    | (go_at_call 18; (with_reducible refine (within_no _ _ _ _ ?hy).mono ?_); (case hy => omega); rintro e w' ⟨rfl, rfl⟩))
    go_ret
    exact ⟨ret_int (chk_bad (by unfold Good; omega)).symm, (Below.refl _ _).alloc (Nat.le_refl _) _⟩
  by_cases a1 : n ≤ 8
  rotate_left 1
  · have b1 : 8 < n := by omega
    clear a1
    go_enter Try.func10, Try.ntmps10
    go_wp2_with (first
    | (go_at_call 18; (with_reducible refine (within_yes _ _ _ _ ?hy).mono ?_); (case hy => exact ⟨by omega, by omega⟩); rintro e w' ⟨rfl, rfl⟩)
    | (go_at_call 18; (with_reducible refine (within_no _ _ _ _ ?hy).mono ?_); (case hy => omega); rintro e w' ⟨rfl, rfl⟩))
    go_ret
    exact ⟨ret_int (chk_bad (by unfold Good; omega)).symm, (Below.refl _ _).alloc (Nat.le_refl _) _⟩
  by_cases a2 : 1 ≤ u
  rotate_left 1
  · have b2 : u < 1 := by omega
    clear a2
    go_enter Try.func10, Try.ntmps10
    go_wp2_with (first
    | (go_at_call 18; (with_reducible refine (within_yes _ _ _ _ ?hy).mono ?_); (case hy => exact ⟨by omega, by omega⟩); rintro e w' ⟨rfl, rfl⟩)
    | (go_at_call 18; (with_reducible refine (within_no _ _ _ _ ?hy).mono ?_); (case hy => omega); rintro e w' ⟨rfl, rfl⟩))
    go_ret
    exact ⟨ret_int (chk_bad (by unfold Good; omega)).symm, (Below.refl _ _).alloc (Nat.le_refl _) _⟩
  by_cases a3 : u ≤ n
  rotate_left 1
  · have b3 : n < u := by omega
    clear a3
    go_enter Try.func10, Try.ntmps10
    go_wp2_with (first
    | (go_at_call 18; (with_reducible refine (within_yes _ _ _ _ ?hy).mono ?_); (case hy => exact ⟨by omega, by omega⟩); rintro e w' ⟨rfl, rfl⟩)
    | (go_at_call 18; (with_reducible refine (within_no _ _ _ _ ?hy).mono ?_); (case hy => omega); rintro e w' ⟨rfl, rfl⟩))
    go_ret
    exact ⟨ret_int (chk_bad (by unfold Good; omega)).symm, (Below.refl _ _).alloc (Nat.le_refl _) _⟩
  by_cases a4 : 1 ≤ r
  rotate_left 1
  · have b4 : r < 1 := by omega
    clear a4
    go_enter Try.func10, Try.ntmps10
    go_wp2_with (first
    | (go_at_call 18; (with_reducible refine (within_yes _ _ _ _ ?hy).mono ?_); (case hy => exact ⟨by omega, by omega⟩); rintro e w' ⟨rfl, rfl⟩)
    | (go_at_call 18; (with_reducible refine (within_no _ _ _ _ ?hy).mono ?_); (case hy => omega); rintro e w' ⟨rfl, rfl⟩))
    go_ret
    exact ⟨ret_int (chk_bad (by unfold Good; omega)).symm, (Below.refl _ _).alloc (Nat.le_refl _) _⟩
  by_cases a5 : r ≤ n
  rotate_left 1
  · have b5 : n < r := by omega
    clear a5
    go_enter Try.func10, Try.ntmps10
    go_wp2_with (first
    | (go_at_call 18; (with_reducible refine (within_yes _ _ _ _ ?hy).mono ?_); (case hy => exact ⟨by omega, by omega⟩); rintro e w' ⟨rfl, rfl⟩)
    | (go_at_call 18; (with_reducible refine (within_no _ _ _ _ ?hy).mono ?_); (case hy => omega); rintro e w' ⟨rfl, rfl⟩))
    go_ret
    exact ⟨ret_int (chk_bad (by unfold Good; omega)).symm, (Below.refl _ _).alloc (Nat.le_refl _) _⟩
  by_cases a6 : n < u + r
  rotate_left 1
  · have b6 : u + r ≤ n := by omega
    clear a6
    go_enter Try.func10, Try.ntmps10
    go_wp2_with (first
    | (go_at_call 18; (with_reducible refine (within_yes _ _ _ _ ?hy).mono ?_); (case hy => exact ⟨by omega, by omega⟩); rintro e w' ⟨rfl, rfl⟩)
    | (go_at_call 18; (with_reducible refine (within_no _ _ _ _ ?hy).mono ?_); (case hy => omega); rintro e w' ⟨rfl, rfl⟩))
    go_ret
    exact ⟨ret_int (chk_bad (by unfold Good; omega)).symm, (Below.refl _ _).alloc (Nat.le_refl _) _⟩
  by_cases a7 : 1 ≤ c
  rotate_left 1
  · have b7 : c < 1 := by omega
    clear a7
    go_enter Try.func10, Try.ntmps10
    go_wp2_with (first
    | (go_at_call 18; (with_reducible refine (within_yes _ _ _ _ ?hy).mono ?_); (case hy => exact ⟨by omega, by omega⟩); rintro e w' ⟨rfl, rfl⟩)
    | (go_at_call 18; (with_reducible refine (within_no _ _ _ _ ?hy).mono ?_); (case hy => omega); rintro e w' ⟨rfl, rfl⟩))
    go_ret
    exact ⟨ret_int (chk_bad (by unfold Good; omega)).symm, (Below.refl _ _).alloc (Nat.le_refl _) _⟩
  by_cases a8 : c ≤ 4
  rotate_left 1
  · have b8 : 4 < c := by omega
    clear a8
    go_enter Try.func10, Try.ntmps10
    go_wp2_with (first
    | (go_at_call 18; (with_reducible refine (within_yes _ _ _ _ ?hy).mono ?_); (case hy => exact ⟨by omega, by omega⟩); rintro e w' ⟨rfl, rfl⟩)
    | (go_at_call 18; (with_reducible refine (within_no _ _ _ _ ?hy).mono ?_); (case hy => omega); rintro e w' ⟨rfl, rfl⟩))
    go_ret
    exact ⟨ret_int (chk_bad (by unfold Good; omega)).symm, (Below.refl _ _).alloc (Nat.le_refl _) _⟩
  by_cases a9 : 1 ≤ t
  rotate_left 1
  · have b9 : t < 1 := by omega
    clear a9
    go_enter Try.func10, Try.ntmps10
    go_wp2_with (first
    | (go_at_call 18; (with_reducible refine (within_yes _ _ _ _ ?hy).mono ?_); (case hy => exact ⟨by omega, by omega⟩); rintro e w' ⟨rfl, rfl⟩)
    | (go_at_call 18; (with_reducible refine (within_no _ _ _ _ ?hy).mono ?_); (case hy => omega); rintro e w' ⟨rfl, rfl⟩))
    go_ret
    exact ⟨ret_int (chk_bad (by unfold Good; omega)).symm, (Below.refl _ _).alloc (Nat.le_refl _) _⟩
  by_cases a10 : t ≤ 64
  rotate_left 1
  · have b10 : 64 < t := by omega
    clear a10
    go_enter Try.func10, Try.ntmps10
    go_wp2_with (first
    | (go_at_call 18; (with_reducible refine (within_yes _ _ _ _ ?hy).mono ?_); (case hy => exact ⟨by omega, by omega⟩); rintro e w' ⟨rfl, rfl⟩)
    | (go_at_call 18; (with_reducible refine (within_no _ _ _ _ ?hy).mono ?_); (case hy => omega); rintro e w' ⟨rfl, rfl⟩))
    go_ret
    exact ⟨ret_int (chk_bad (by unfold Good; omega)).symm, (Below.refl _ _).alloc (Nat.le_refl _) _⟩
  by_cases a11 : 1 ≤ s
  rotate_left 1
  · have b11 : s < 1 := by omega
    clear a11
    go_enter Try.func10, Try.ntmps10
    go_wp2_with (first
    | (go_at_call 18; (with_reducible refine (within_yes _ _ _ _ ?hy).mono ?_); (case hy => exact ⟨by omega, by omega⟩); rintro e w' ⟨rfl, rfl⟩)
    | (go_at_call 18; (with_reducible refine (within_no _ _ _ _ ?hy).mono ?_); (case hy => omega); rintro e w' ⟨rfl, rfl⟩))
    go_ret
    exact ⟨ret_int (chk_bad (by unfold Good; omega)).symm, (Below.refl _ _).alloc (Nat.le_refl _) _⟩
  by_cases a12 : s ≤ 512
  rotate_left 1
  · have b12 : 512 < s := by omega
    clear a12
    go_enter Try.func10, Try.ntmps10
    go_wp2_with (first
    | (go_at_call 18; (with_reducible refine (within_yes _ _ _ _ ?hy).mono ?_); (case hy => exact ⟨by omega, by omega⟩); rintro e w' ⟨rfl, rfl⟩)
    | (go_at_call 18; (with_reducible refine (within_no _ _ _ _ ?hy).mono ?_); (case hy => omega); rintro e w' ⟨rfl, rfl⟩))
    go_ret
    exact ⟨ret_int (chk_bad (by unfold Good; omega)).symm, (Below.refl _ _).alloc (Nat.le_refl _) _⟩
  go_enter Try.func10, Try.ntmps10
  go_wp2_with (first
    | (go_at_call 18; (with_reducible refine (within_yes _ _ _ _ ?hy).mono ?_); (case hy => exact ⟨by omega, by omega⟩); rintro e w' ⟨rfl, rfl⟩)
    | (go_at_call 18; (with_reducible refine (within_no _ _ _ _ ?hy).mono ?_); (case hy => omega); rintro e w' ⟨rfl, rfl⟩))
  go_ret
  exact ⟨ret_int (chk_good (by unfold Good; omega)).symm, (Below.refl _ _).alloc (Nat.le_refl _) _⟩

end Go.Proofs.Ythkpofopcnapdaa
