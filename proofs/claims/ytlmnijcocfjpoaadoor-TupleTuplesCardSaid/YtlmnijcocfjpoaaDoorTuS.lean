/-
  The walk of TupleTuples.
-/
import Derived.Test.YtlmnijcocfjpoaaDoorTuO
import Derived.Test.YtlmnijcocfjpoaaDoorTuK
import Derived.Test.YtlmnijcocfjpoaaDoorTuL
import Derived.Test.YtlmnijcocfjpoaaDoorTuQ
namespace Go.Proofs.YtlmnijcocfjpoaaDoor
open Go.RowKit
set_option linter.unusedVariables false

theorem tupV_mod (y x W P1 : Int) : tupV (y % 4294967296) x W P1 = tupV y x W P1 := by
  unfold tupV tupD1 tupD
  simp only [rz_mod]
theorem tuple_both (k : Nat) (x : Int) (h1 : 1 ≤ k) (hk : k ≤ 32) (hx0 : 0 ≤ x) (hx1 : x ≤ 16777219) : ∃ d a b d1 a1 b1 : Int,
    (∀ w, Bnd w → Calls Tryd.prog 15 #[.int .i64 (k : Int), .int .i64 x] w fun e w' => e = .returned (.tuple #[.agg #[.int .i64 d, .int .i64 a, .int .i64 b, .int .i64 d1, .int .i64 a1, .int .i64 b1], .int .i64 0]) ∧ Below w.heap.size w w') ∧
    (∀ w, Calls Tryd.prog 16 #[.int .i64 (k : Int), .int .i64 x] w fun e w' => e = .returned (.tuple #[.agg #[.int .i64 d, .int .i64 a, .int .i64 b, .int .i64 d1, .int .i64 a1, .int .i64 b1], .int .i64 0]) ∧ Below w.heap.size w w') := by
  rcases cJ_or k with h | h
  · have hA := fun w hg => tuple_j0 k x w h1 hk h hx0 hx1 hg
    have hB := fun w => refTuple_j0 k x w h1 hk h hx0 hx1
    simp only [tupV_mod] at hB
    exact ⟨_, _, _, _, _, _, hA, hB⟩
  · have hA := fun w hg => tuple_j2 k x w h1 hk h hx0 hx1 hg
    have hB := fun w => refTuple_j2 k x w h1 hk h hx0 hx1
    simp only [tupV_mod] at hB
    exact ⟨_, _, _, _, _, _, hA, hB⟩

set_option maxRecDepth 10000 in
set_option maxHeartbeats 4000000 in
theorem tupleTuples_walk (k x : Int) (W : World) (hg : Bnd W) (w0 : (Lit.int .i64 k).wf = true) (w1 : (Lit.int .i64 x).wf = true) :
    Calls Tryd.prog 5 #[.int .i64 k, .int .i64 x] W fun e W' => e = .returned (.bool true) ∧ Below W.heap.size W W' := by
  obtain ⟨k0, k1⟩ := wf_i64 w0
  obtain ⟨x0, x1⟩ := wf_i64 w1
  clear w0 w1
  by_cases hk : 1 ≤ k ∧ k ≤ 32
  · obtain ⟨n, rfl⟩ : ∃ n : Nat, k = n := ⟨k.toNat, by omega⟩
    by_cases hx : 0 ≤ x ∧ x ≤ 16777219
    · obtain ⟨d, a, b, d1, a1, b1, TA, TB⟩ := tuple_both n x (by omega) (by omega) (by omega) (by omega)
      go_enter Tryd.func5, Tryd.ntmps5
      go_wp2_with (first
        | (go_at_call 8; (with_reducible refine (alive_any _ hg).mono ?_); rintro e w1 ⟨rfl, hb1⟩; have hg1 := hg.below hb1)
        | (go_at_call 15; (with_reducible refine (TA _ hg1).mono ?_); rintro e w2 ⟨rfl, hb2⟩)
        | (go_at_call 16; (with_reducible refine (TB _).mono ?_); rintro e w3 ⟨rfl, hb3⟩; obtain ⟨hold, hbw, hold0, hbw0⟩ := after_call _ _ _ hb3)
        | ((with_reducible show wpList _ _ _ (⟨_, Op.load 33 (.tmp 5), _, _, _, _⟩ :: _) _ _); (refine wpList_load_row rfl 33 (.tmp 5) rfl w2.heap.size rfl 33 _ (0, 0) _ (hold _) Tryd.underlying33 rfl (by kernel_rfl) ?_)))
      all_goals go_ret
      all_goals exact ⟨rfl, (hb1.trans (hb2.mono hb1.size)).trans ((hbw _).mono (Nat.le_trans hb1.size hb2.size))⟩
    · have TA := fun w => tuple_badx n x w (by omega) (by omega) (by omega)
      have TB := fun w => refTuple_badx n x w (by omega) (by omega) (by omega)
      unfold tupZ at TA TB
      go_enter Tryd.func5, Tryd.ntmps5
      go_wp2_with (first
        | (go_at_call 8; (with_reducible refine (alive_any _ hg).mono ?_); rintro e w1 ⟨rfl, hb1⟩; have hg1 := hg.below hb1)
        | (go_at_call 15; (with_reducible refine (TA _).mono ?_); rintro e w2 ⟨rfl, hb2⟩)
        | (go_at_call 16; (with_reducible refine (TB _).mono ?_); rintro e w3 ⟨rfl, hb3⟩; obtain ⟨hold, hbw, hold0, hbw0⟩ := after_call _ _ _ hb3)
        | ((with_reducible show wpList _ _ _ (⟨_, Op.load 33 (.tmp 5), _, _, _, _⟩ :: _) _ _); (refine wpList_load_row rfl 33 (.tmp 5) rfl w2.heap.size rfl 33 _ (0, 0) _ (hold _) Tryd.underlying33 rfl (by kernel_rfl) ?_)))
      all_goals go_ret
      all_goals exact ⟨rfl, (hb1.trans (hb2.mono hb1.size)).trans ((hbw _).mono (Nat.le_trans hb1.size hb2.size))⟩
  · have TA := fun w => tuple_badk k x w (by omega)
    have TB := fun w => refTuple_badk k x w (by omega)
    unfold tupZ at TA TB
    go_enter Tryd.func5, Tryd.ntmps5
    go_wp2_with (first
      | (go_at_call 8; (with_reducible refine (alive_any _ hg).mono ?_); rintro e w1 ⟨rfl, hb1⟩; have hg1 := hg.below hb1)
      | (go_at_call 15; (with_reducible refine (TA _).mono ?_); rintro e w2 ⟨rfl, hb2⟩)
      | (go_at_call 16; (with_reducible refine (TB _).mono ?_); rintro e w3 ⟨rfl, hb3⟩; obtain ⟨hold, hbw, hold0, hbw0⟩ := after_call _ _ _ hb3)
      | ((with_reducible show wpList _ _ _ (⟨_, Op.load 33 (.tmp 5), _, _, _, _⟩ :: _) _ _); (refine wpList_load_row rfl 33 (.tmp 5) rfl w2.heap.size rfl 33 _ (0, 0) _ (hold _) Tryd.underlying33 rfl (by kernel_rfl) ?_)))
    all_goals go_ret
    all_goals exact ⟨rfl, (hb1.trans (hb2.mono hb1.size)).trans ((hbw _).mono (Nat.le_trans hb1.size hb2.size))⟩
end Go.Proofs.YtlmnijcocfjpoaaDoor
