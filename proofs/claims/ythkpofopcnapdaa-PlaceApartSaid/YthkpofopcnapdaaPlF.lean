/-
  place: Owner.
-/
import Derived.Test.YthkpofopcnapdaaPlD
import Derived.Deep.QuietTactic
import Derived.BigQuiet
import Derived.IntWalk
namespace Go.Proofs.Ythkpofopcnapdaa
open Go.RowKit

theorem below_drewN {B : Nat} {a w : World} (h : Below B a w) : ∀ n, Below B a (w.drewN n)
  | 0 => h
  | n + 1 => (below_drewN h n).drew
theorem shr_range {n u r c t s k : Int} (h : Good n u r c t s) (h1 : 1 ≤ k) (h2 : k ≤ 32) : 2 ≤ shr n u r k ∧ shr n u r k ≤ 33 := by
  obtain ⟨g0, g1, g2, g3, g4, g5, g6, g7, g8, g9, g10, g11, g12⟩ := (show _ ∧ _ from h)
  unfold shr
  have a1 : 1 ≤ (k + (u + r - n) - 1) / (u + r - n) := Int.le_ediv_of_mul_le (by omega) (by omega)
  have a2 : (k + (u + r - n) - 1) / (u + r - n) ≤ k := by
    have : (k + (u + r - n) - 1) / (u + r - n) < k + 1 := Int.ediv_lt_of_lt_mul (by omega) (by
      rw [Int.add_mul, Int.one_mul]
      have := Int.mul_le_mul_of_nonneg_left (show 1 ≤ u + r - n by omega) (show 0 ≤ k by omega)
      omega)
    omega
  omega

set_option maxRecDepth 10000 in
set_option maxHeartbeats 4000000 in
theorem owner_good (n u r c t s k e : Int) (w : World) (h : Good n u r c t s) (hk : 1 ≤ k ∧ k ≤ 32) (he : 0 ≤ e ∧ e ≤ 16777215) :
    Calls Try.prog 15 #[cfg n u r c t s, .int .i64 k, .int .i64 e] w fun x w' => x = .returned (.tuple #[.int .i64 (e % n), .int .i64 (e / n / shr n u r k), .int .i64 0]) ∧ Below w.heap.size w w' := by
  have hq := shr_range h hk.1 hk.2
  have HC := fun w => share_good n u r c t s k w h hk
  obtain ⟨g0, g1, g2, g3, g4, g5, g6, g7, g8, g9, g10, g11, g12⟩ := (show _ ∧ _ from h)
  clear h
  obtain ⟨q, hqd⟩ : ∃ q, q = shr n u r k := ⟨_, rfl⟩
  rw [← hqd] at hq HC ⊢
  clear hqd
  obtain ⟨q0, q1⟩ := hq
  obtain ⟨e0, e1⟩ := he
  have d0 : 0 ≤ e / n := Int.ediv_nonneg (by omega) (by omega)
  have d1 : e / n ≤ e := Int.ediv_le_self _ (by omega)
  have d2 : 0 ≤ e / n / q := Int.ediv_nonneg (by omega) (by omega)
  have d3 : e / n / q ≤ e / n := Int.ediv_le_self _ (by omega)
  unfold cfg at HC ⊢
  go_enter Try.func15, Try.ntmps15
  go_wp2_with (first
    | (go_at_call 8; (with_reducible refine (HC _).mono ?_); rintro e w1 ⟨rfl, hb1⟩; obtain ⟨hold, hbw, hold0, hbw0⟩ := after_call _ _ _ hb1; have c0 : w1.cell? ⟨w.heap.size, 0, none⟩ = some (.int .i64 n) := cell_of_row _ _ 0 _ _ _ hold0)
    | (go_at_call 18; (with_reducible refine (within_yes _ _ _ _ ?hy).mono ?_); (case hy => exact ⟨by omega, by omega⟩); rintro e w' ⟨rfl, rfl⟩))
  have n0 : (n == 0) = false := by simp; omega
  have q9 : (q == 0) = false := by simp; omega
  have t1 : wrap64 (e.tmod n) = e % n := by
    rw [Int.tmod_eq_emod_of_nonneg e0]
    have := Int.emod_nonneg e (show n ≠ 0 by omega)
    have := Int.emod_lt_of_pos e (show 0 < n by omega)
    exact IntWalk.wrap64_in _ (by omega)
  have t2 : wrap64 (e.tdiv n) = e / n := by
    rw [Int.tdiv_eq_ediv_of_nonneg e0]
    exact IntWalk.wrap64_in _ (by omega)
  have t3 : wrap64 ((e / n).tdiv q) = e / n / q := by
    rw [Int.tdiv_eq_ediv_of_nonneg d0]
    exact IntWalk.wrap64_in _ (by omega)
  go_quiet (fail)

  all_goals go_wp2
  all_goals go_ret3
  all_goals exact ⟨rfl, below_drewN hbw0 _⟩
end Go.Proofs.Ythkpofopcnapdaa
