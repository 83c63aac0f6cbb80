/-
  place: Share.
-/
import Derived.Test.YthkpofopcnapdaaPlC
import Derived.Laws.Rows
import Derived.Laws.IdiomRangeMap
namespace Go.Proofs.Ythkpofopcnapdaa
open Go.RowKit

theorem after_call (w w1 : World) (o : Obj) (hb : Below (w.alloc o).heap.size (w.alloc o) w1) :
    (∀ o', (w1.alloc o').heap[w.heap.size]? = some o) ∧ (∀ o', Below w.heap.size w (w1.alloc o')) ∧ w1.heap[w.heap.size]? = some o ∧ Below w.heap.size w w1 := by
  have h0 : w1.heap[w.heap.size]? = some o := (hb.block w.heap.size (by simp)).trans (heap_alloc_new w o)
  have hlt : w.heap.size < w1.heap.size := (Array.getElem?_eq_some_iff.1 h0).1
  have hbw : Below w.heap.size w w1 := ((Below.refl _ _).alloc (Nat.le_refl _) o).trans (hb.mono (by simp))
  exact ⟨fun o' => (heap_alloc_old w1 o' hlt).trans h0, fun o' => hbw.alloc (Nat.le_of_lt hlt) o', h0, hbw⟩

/-- how many symbols a node has. -/
def shr (n u r k : Int) : Int := (k + (u + r - n) - 1) / (u + r - n) + 1
theorem ret_two {k l : IntKind} {a b c d : Int} (h : a = b) (h2 : c = d) : Ending.returned (.tuple #[.int k a, .int l c]) = .returned (.tuple #[.int k b, .int l d]) := by rw [h, h2]

set_option maxRecDepth 10000 in
set_option maxHeartbeats 4000000 in
theorem share_good (n u r c t s k : Int) (w : World) (h : Good n u r c t s) (hk : 1 ≤ k ∧ k ≤ 32) :
    Calls Try.prog 8 #[cfg n u r c t s, .int .i64 k] w fun e w' => e = .returned (.tuple #[.int .i64 (shr n u r k), .int .i64 0]) ∧ Below w.heap.size w w' := by
  obtain ⟨g0, g1, g2, g3, g4, g5, g6, g7, g8, g9, g10, g11, g12⟩ := (show _ ∧ _ from h)
  have HC := fun w => check_any n u r c t s w ⟨by omega, by omega⟩ ⟨by omega, by omega⟩
  rw [chk_good h] at HC
  clear h
  obtain ⟨k0, k1⟩ := hk
  have d0 : 0 ≤ (k + (u + r - n) - 1) / (u + r - n) := Int.ediv_nonneg (by omega) (by omega)
  have d1 : (k + (u + r - n) - 1) / (u + r - n) ≤ k + (u + r - n) - 1 := Int.ediv_le_self _ (by omega)
  unfold cfg at HC ⊢
  go_enter Try.func8, Try.ntmps8
  go_wp2_with (first
    | (go_at_call 10; (with_reducible refine (HC _).mono ?_); rintro e w1 ⟨rfl, hb1⟩; obtain ⟨hold, hbw, hold0, hbw0⟩ := after_call _ _ _ hb1; have c0 : w1.cell? ⟨w.heap.size, 0, none⟩ = some (.int .i64 n) := cell_of_row _ _ 0 _ _ _ hold0; have c1 : w1.cell? ⟨w.heap.size, 1, none⟩ = some (.int .i64 u) := cell_of_row _ _ 1 _ _ _ hold0; have c2 : w1.cell? ⟨w.heap.size, 2, none⟩ = some (.int .i64 r) := cell_of_row _ _ 2 _ _ _ hold0)
    | (go_at_call 18; (with_reducible refine (within_yes _ _ _ _ ?hy).mono ?_); (case hy => exact ⟨by omega, by omega⟩); rintro e w' ⟨rfl, rfl⟩))
  go_ret2
  exact ⟨rfl, hbw0⟩

set_option maxRecDepth 10000 in
set_option maxHeartbeats 4000000 in
theorem share_badk (n u r c t s k : Int) (w : World) (h : Good n u r c t s) (hk : k < 1 ∨ 32 < k) :
    Calls Try.prog 8 #[cfg n u r c t s, .int .i64 k] w fun e w' => e = .returned (.tuple #[.int .i64 0, .int .i64 30]) ∧ Below w.heap.size w w' := by
  obtain ⟨g0, g1, g2, g3, g4, g5, g6, g7, g8, g9, g10, g11, g12⟩ := (show _ ∧ _ from h)
  have HC := fun w => check_any n u r c t s w ⟨by omega, by omega⟩ ⟨by omega, by omega⟩
  rw [chk_good h] at HC
  clear h
  unfold cfg at HC ⊢
  go_enter Try.func8, Try.ntmps8
  go_wp2_with (first
    | (go_at_call 10; (with_reducible refine (HC _).mono ?_); rintro e w1 ⟨rfl, hb1⟩; obtain ⟨hold, hbw, hold0, hbw0⟩ := after_call _ _ _ hb1)
    | (go_at_call 18; (with_reducible refine (within_no _ _ _ _ ?hy).mono ?_); (case hy => omega); rintro e w' ⟨rfl, rfl⟩))
  go_ret2
  exact ⟨rfl, hbw0⟩

set_option maxRecDepth 10000 in
set_option maxHeartbeats 4000000 in
theorem share_badc (n u r c t s k : Int) (w : World) (h : ¬ Good n u r c t s) (hu : -9223372036854775808 ≤ u ∧ u ≤ 9223372036854775807) (hr : -9223372036854775808 ≤ r ∧ r ≤ 9223372036854775807) :
    Calls Try.prog 8 #[cfg n u r c t s, .int .i64 k] w fun e w' => e = .returned (.tuple #[.int .i64 0, .int .i64 130]) ∧ Below w.heap.size w w' := by
  have HC := fun w => check_any n u r c t s w hu hr
  rw [chk_bad h] at HC
  clear h
  unfold cfg at HC ⊢
  go_enter Try.func8, Try.ntmps8
  go_wp2_with (first
    | (go_at_call 10; (with_reducible refine (HC _).mono ?_); rintro e w1 ⟨rfl, hb1⟩; obtain ⟨hold, hbw, hold0, hbw0⟩ := after_call _ _ _ hb1))
  go_ret2
  exact ⟨rfl, hbw0⟩
end Go.Proofs.Ythkpofopcnapdaa
