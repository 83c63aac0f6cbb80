/-
  tuple: the law's 'alive'.
-/
import Derived.Test.YtlmnijcocfjpoaaDoorTuD
namespace Go.Proofs.YtlmnijcocfjpoaaDoor
open Go.RowKit

theorem code_one : codeV ((1 : Nat)) = .agg #[.int .i64 1, .int .i64 4, .int .i64 3, .int .i64 4, .int .i64 11, .int .i64 7, .int .i64 4, .int .i64 5, .int .i64 4, .int .i64 2] := by kernel_rfl
theorem deg_one : degS 5243 43 = 2 := by decide +kernel
/-- the bounds lie in the world. -/
def Bnd (w : World) : Prop := ∃ t fr, w.heap[0]? = some (.cells bndsV t fr)
theorem Bnd.below {w w' : World} (h : Bnd w) (hb : Below w.heap.size w w') : Bnd w' := by
  obtain ⟨t, fr, hg⟩ := h
  exact ⟨t, fr, (hb.block 0 (Array.getElem?_eq_some_iff.1 hg).1).trans hg⟩
theorem Bnd.alloc {w : World} {o : Obj} (h : Bnd w) : Bnd (w.alloc o) := h.below ((Below.refl _ _).alloc (Nat.le_refl _) o)
theorem degree_call (v x : Int) (w : World) (hx0 : -9223372036854775808 ≤ x) (hx1 : x ≤ 9223372036854775807) (hg : Bnd w) :
    Calls Tryd.prog 13 #[.int .i64 v, .int .i64 x] w fun e w' => e = .returned (.int .i64 (degS v x)) ∧ w = w' := by
  obtain ⟨t, fr, hg⟩ := hg
  exact degree_any v x w t fr ⟨hx0, hx1⟩ hg
theorem params_one (w : World) :
    Calls Tryd.prog 9 #[.int .i64 1] w fun e w' => e = .returned (.tuple #[.agg #[.int .i64 1, .int .i64 4, .int .i64 3, .int .i64 4, .int .i64 11, .int .i64 7, .int .i64 4, .int .i64 5, .int .i64 4, .int .i64 2], .int .i64 0]) ∧ Below w.heap.size w w' := by
  rw [← code_one]
  exact params_any 1 w (by omega) (by omega)

set_option maxRecDepth 10000 in
set_option maxHeartbeats 1000000 in
theorem alive_any (w : World) (hg : Bnd w) :
    Calls Tryd.prog 8 #[] w fun e w' => e = .returned (.bool true) ∧ Below w.heap.size w w' := by
  go_enter Tryd.func8, Tryd.ntmps8
  go_wp2_with (first | (go_at_call 9; (with_reducible refine (params_one _).mono ?_); rintro e w1 ⟨rfl, hb1⟩; have hg1 := hg.below hb1) | (go_at_call 13; (with_reducible refine (degree_call 5243 43 _ (by omega) (by omega) hg1.alloc).mono ?_); rintro e w' ⟨rfl, rfl⟩; rw [deg_one]))
  go_ret
  exact ⟨rfl, hb1.alloc hb1.size _⟩
end Go.Proofs.YtlmnijcocfjpoaaDoor
