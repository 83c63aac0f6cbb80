/-
  place: the reference's Share.
-/
import Derived.Test.YthkpofopcnapdaaPlB
import Derived.Test.YthkpofopcnapdaaPlD
namespace Go.Proofs.Ythkpofopcnapdaa
open Go.RowKit

theorem div_at {a m j : Int} (hm : 0 < m) (h1 : j * m ≤ a) (h2 : a < (j + 1) * m) : a / m = j := by
  have := Int.le_ediv_of_mul_le hm h1
  have := Int.ediv_lt_of_lt_mul hm h2
  omega

set_option maxRecDepth 10000 in
set_option maxHeartbeats 4000000 in
theorem refShare_good (n u r c t s k : Int) (w : World) (h : Good n u r c t s) (hk : 1 ≤ k ∧ k ≤ 32) :
    Calls Try.prog 9 #[cfg n u r c t s, .int .i64 k] w fun e w' => e = .returned (.tuple #[.int .i64 (shr n u r k), .int .i64 0]) ∧ Below w.heap.size w w' := by
  obtain ⟨g0, g1, g2, g3, g4, g5, g6, g7, g8, g9, g10, g11, g12⟩ := (show _ ∧ _ from h)
  have HC := fun w => refCheck_any n u r c t s w ⟨by omega, by omega⟩ ⟨by omega, by omega⟩
  rw [chk_good h] at HC
  clear h
  obtain ⟨k0, k1⟩ := hk
  unfold cfg at HC ⊢
  go_enter Try.func9, Try.ntmps9
  go_wp2_with (first
    | (go_at_call 11; (with_reducible refine (HC _).mono ?_); rintro e w1 ⟨rfl, hb1⟩; obtain ⟨hold, hbw, hold0, hbw0⟩ := after_call _ _ _ hb1; have c0 : w1.cell? ⟨w.heap.size, 0, none⟩ = some (.int .i64 n) := cell_of_row _ _ 0 _ _ _ hold0; have c1 : w1.cell? ⟨w.heap.size, 1, none⟩ = some (.int .i64 u) := cell_of_row _ _ 1 _ _ _ hold0; have c2 : w1.cell? ⟨w.heap.size, 2, none⟩ = some (.int .i64 r) := cell_of_row _ _ 2 _ _ _ hold0))
  go_loop [8, 9] (fun q i => ∃ a j : Int, Hid (a = j * (u + r - n)) ∧ 0 ≤ j ∧ j ≤ a ∧ a < k + (u + r - n) ∧ q = .int .i64 (1 + j) ∧ i = .int .i64 a) (fun _ i => (k - intOf i).toNat)
  case atStart => exact ⟨0, 0, Lib.hid (by simp), by omega, by omega, by omega, rfl, rfl⟩
  case round =>
    obtain ⟨a, j, HJ, j0, j1, j2, rfl, rfl⟩ := hrel
    by_cases hak : a < k
    · go_wp2
      go_round
      case rel =>
        refine ⟨a + (u + r - n), j + 1, Lib.hid ?_, by omega, by omega, by omega, by go_num, by go_num⟩
        have := HJ.out
        rw [Int.add_mul, this, Int.one_mul]
      case measure => simp [intOf]; omega
    · have hs : shr n u r k = 1 + j := by
        unfold shr
        rw [div_at (j := j) (by omega) (by have := HJ.out; omega) (by have := HJ.out; rw [Int.add_mul, Int.one_mul]; omega)]
        omega
      have HS := Lib.hid hs
      clear hs
      go_wp2
      go_ret2
      exact ⟨ret_two HS.out.symm rfl, hbw0⟩

set_option maxRecDepth 10000 in
set_option maxHeartbeats 4000000 in
theorem refShare_badk (n u r c t s k : Int) (w : World) (h : Good n u r c t s) (hk : k < 1 ∨ 32 < k) :
    Calls Try.prog 9 #[cfg n u r c t s, .int .i64 k] w fun e w' => e = .returned (.tuple #[.int .i64 0, .int .i64 30]) ∧ Below w.heap.size w w' := by
  obtain ⟨g0, g1, g2, g3, g4, g5, g6, g7, g8, g9, g10, g11, g12⟩ := (show _ ∧ _ from h)
  have HC := fun w => refCheck_any n u r c t s w ⟨by omega, by omega⟩ ⟨by omega, by omega⟩
  rw [chk_good h] at HC
  clear h
  unfold cfg at HC ⊢
  rcases hk with hk | hk
  all_goals
    go_enter Try.func9, Try.ntmps9
    go_wp2_with (first
      | (go_at_call 11; (with_reducible refine (HC _).mono ?_); rintro e w1 ⟨rfl, hb1⟩; obtain ⟨hold, hbw, hold0, hbw0⟩ := after_call _ _ _ hb1))
    go_ret2
    exact ⟨rfl, hbw0⟩

set_option maxRecDepth 10000 in
set_option maxHeartbeats 4000000 in
theorem refShare_badc (n u r c t s k : Int) (w : World) (h : ¬ Good n u r c t s) (hu : -9223372036854775808 ≤ u ∧ u ≤ 9223372036854775807) (hr : -9223372036854775808 ≤ r ∧ r ≤ 9223372036854775807) :
    Calls Try.prog 9 #[cfg n u r c t s, .int .i64 k] w fun e w' => e = .returned (.tuple #[.int .i64 0, .int .i64 130]) ∧ Below w.heap.size w w' := by
  have HC := fun w => refCheck_any n u r c t s w hu hr
  rw [chk_bad h] at HC
  clear h
  unfold cfg at HC ⊢
  go_enter Try.func9, Try.ntmps9
  go_wp2_with (first
    | (go_at_call 11; (with_reducible refine (HC _).mono ?_); rintro e w1 ⟨rfl, hb1⟩; obtain ⟨hold, hbw, hold0, hbw0⟩ := after_call _ _ _ hb1))
  go_ret2
  exact ⟨rfl, hbw0⟩
end Go.Proofs.Ythkpofopcnapdaa
