/-
  place: Esis, too far; and what it tells.
-/
import Derived.Test.YthkpofopcnapdaaPlI
namespace Go.Proofs.Ythkpofopcnapdaa
open Go.RowKit

theorem mul_range {a b A B : Int} (ha : 0 ≤ a) (hA : a ≤ A) (hb : 0 ≤ b) (hB : b ≤ B) : 0 ≤ a * b ∧ a * b ≤ A * B :=
  ⟨Int.mul_nonneg ha hb, Int.mul_le_mul hA hB hb (by omega)⟩

set_option maxRecDepth 10000 in
set_option maxHeartbeats 4000000 in
theorem esis_far (n u r c t s node k rd : Int) (w : World) (h : Good n u r c t s) (hk : 1 ≤ k ∧ k ≤ 32) (hn : 0 ≤ node ∧ node < n) (hr : 0 ≤ rd ∧ rd ≤ 100000) (hf : 16777216 ≤ node + n * (shr n u r k * (rd + 1) - 1)) :
    Calls Try.prog 12 #[cfg n u r c t s, .int .i64 node, .int .i64 k, .int .i64 rd] w fun x w' => x = .returned (.tuple #[.slice none 0 0, .int .i64 40]) ∧ Below w.heap.size w w' := by
  have HC := fun w => share_good n u r c t s k w h hk
  have hq := shr_range h hk.1 hk.2
  obtain ⟨g0, g1, g2, g3, g4, g5, g6, g7, g8, g9, g10, g11, g12⟩ := (show _ ∧ _ from h)
  clear h
  obtain ⟨q, hqd⟩ : ∃ q, q = shr n u r k := ⟨_, rfl⟩
  rw [← hqd] at hq HC hf
  clear hqd
  obtain ⟨q0, q1⟩ := hq
  obtain ⟨n0, n1⟩ := hn
  obtain ⟨r0, r1⟩ := hr
  obtain ⟨x0, x1⟩ := mul_range (a := q) (b := rd + 1) (A := 33) (B := 100001) (by omega) q1 (by omega) (by omega)
  have x2 : 1 ≤ q * (rd + 1) := by
    have := Int.mul_le_mul (show 1 ≤ q by omega) (show 1 ≤ rd + 1 by omega) (by omega) (by omega)
    omega
  obtain ⟨y0, y1⟩ := mul_range (a := n) (b := q * (rd + 1) - 1) (A := 8) (B := 3300033) (by omega) g1 (by omega) (by omega)
  unfold cfg at HC ⊢
  go_enter Try.func12, Try.ntmps12
  go_wp2_with (first
    | (go_at_call 8; (with_reducible refine (HC _).mono ?_); rintro e w1 ⟨rfl, hb1⟩; obtain ⟨hold, hbw, hold0, hbw0⟩ := after_call _ _ _ hb1; have c0 : w1.cell? ⟨w.heap.size, 0, none⟩ = some (.int .i64 n) := cell_of_row _ _ 0 _ _ _ hold0)
    | (go_at_call 18; (with_reducible refine (within_yes _ _ _ _ ?hy).mono ?_); (case hy => exact ⟨by omega, by omega⟩); rintro e w' ⟨rfl, rfl⟩)
    | (go_at_call 18; (with_reducible refine (within_no _ _ _ _ ?hy).mono ?_); (case hy => omega); rintro e w' ⟨rfl, rfl⟩))
  all_goals go_ret2
  all_goals exact ⟨rfl, hbw0⟩
end Go.Proofs.Ythkpofopcnapdaa
