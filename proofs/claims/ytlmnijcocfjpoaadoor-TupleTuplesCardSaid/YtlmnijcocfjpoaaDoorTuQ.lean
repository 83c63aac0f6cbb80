/-
  tuple: what the reference's Tuple refuses.
-/
import Derived.Test.YtlmnijcocfjpoaaDoorTuP
namespace Go.Proofs.YtlmnijcocfjpoaaDoor
open Go.RowKit

set_option maxRecDepth 10000 in
set_option maxHeartbeats 4000000 in
theorem refTuple_badk (k x : Int) (w : World) (h : k < 1 ∨ 32 < k) :
    Calls Tryd.prog 16 #[.int .i64 k, .int .i64 x] w fun e w' => e = .returned (.tuple #[tupZ, .int .i64 30]) ∧ Below w.heap.size w w' := by
  have PA := fun w => refParams_bad k w h
  unfold codeZ at PA
  go_enter Tryd.func16, Tryd.ntmps16
  go_wp2_with (first
    | (go_at_call 10; (with_reducible refine (PA _).mono ?_); rintro e w1 ⟨rfl, hb1⟩; obtain ⟨hold, hbw, hold0, hbw0⟩ := after_call _ _ _ hb1)
    | ((with_reducible show wpList _ _ _ (⟨_, Op.store 33 (.tmp 4) _, _, _, _, _⟩ :: _) _ _); (refine wpList_store_row rfl 33 (.tmp 4) _ rfl w.heap.size tupZs rfl rfl 33 tupZs (hold _) (by kernel_rfl) rfl (one6 _ _ _ _ _ _) ?_)))
  exact bodyPost_ret (v := .tuple #[.agg tupZs, .int .i64 30]) (results_rtup _ _ _ _ _ rfl rfl (setRow_heap _ _ _ _ _ _ (hold _)) rfl) rfl ⟨rfl, below_setRow (hbw _) (Nat.le_refl _) _⟩

set_option maxRecDepth 10000 in
set_option maxHeartbeats 4000000 in
theorem refTuple_badx (k : Nat) (x : Int) (w : World) (h1 : 1 ≤ k) (hk : k ≤ 32) (h : x < 0 ∨ 16777219 < x) :
    Calls Tryd.prog 16 #[.int .i64 (k : Int), .int .i64 x] w fun e w' => e = .returned (.tuple #[tupZ, .int .i64 40]) ∧ Below w.heap.size w w' := by
  have PA := fun w => refParams_any k w h1 hk
  unfold codeV at PA
  rcases h with h | h
  all_goals
    go_enter Tryd.func16, Tryd.ntmps16
    go_wp2_with (first
      | (go_at_call 10; (with_reducible refine (PA _).mono ?_); rintro e w1 ⟨rfl, hb1⟩; obtain ⟨hold, hbw, hold0, hbw0⟩ := after_call _ _ _ hb1)
      | ((with_reducible show wpList _ _ _ (⟨_, Op.store 33 (.tmp 4) _, _, _, _, _⟩ :: _) _ _); (refine wpList_store_row rfl 33 (.tmp 4) _ rfl w.heap.size tupZs rfl rfl 33 tupZs (hold _) (by kernel_rfl) rfl (one6 _ _ _ _ _ _) ?_)))
    exact bodyPost_ret (v := .tuple #[.agg tupZs, .int .i64 40]) (results_rtup _ _ _ _ _ rfl rfl (setRow_heap _ _ _ _ _ _ (hold _)) rfl) rfl ⟨rfl, below_setRow (hbw _) (Nat.le_refl _) _⟩
end Go.Proofs.YtlmnijcocfjpoaaDoor
