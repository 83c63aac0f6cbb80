/-
  meta: the laws' 'alive'.
-/
import Derived.Test.YthofndobmiamjaaDoorMeG
namespace Go.Proofs.YthofndobmiamjaaDoor
open Go.RowKit

set_option maxRecDepth 10000 in
set_option maxHeartbeats 2000000 in
theorem alive9_any (w : World) : Calls Tryd.prog 16 #[] w fun e w' => e = .returned (.bool true) ∧ Below w.heap.size w w' := by
  have KE := end_one
  have KN := encode_rec1
  have KL : ∀ w, Calls Tryd.prog 36 #[.agg #[.int .i64 1, .int .i64 3], .agg #[.int .i64 2, .int .i64 0]] w fun e w' => e = .returned (.bool true) ∧ Below w.heap.size w w' := fun w => earlier_any 1 3 2 0 w
  have KX : ∀ w, Calls Tryd.prog 37 #[.agg #[.int .i64 7, .int .i64 2], .int .i64 0] w fun e w' => e = .returned (.agg #[.int .i64 8, .int .i64 0]) ∧ Below w.heap.size w w' := fun w => next_any 7 2 0 w
  unfold dead1 at KE
  unfold rec1 keyK at KN
  go_enter Tryd.func16, Tryd.ntmps16
  go_wp2_with (first
    | (go_at_call 21; (with_reducible refine (KE _).mono ?_); rintro e w1 ⟨rfl, hb1⟩)
    | (go_at_call 35; (with_reducible refine (KN _).mono ?_); rintro e w2 ⟨ad, cap, rfl, hd2⟩; have hb2 := trans_allocM hb1 hd2 hb1.size)
    | (go_at_call 36; (with_reducible refine (KL _).mono ?_); rintro e w3 ⟨rfl, hd3⟩; have hb3 := trans_belowM hb2 hd3 hb2.size)
    | (go_at_call 37; (with_reducible refine (KX _).mono ?_); rintro e w4 ⟨rfl, hd4⟩; have hb4 := trans_belowM hb3 hd4 hb3.size))
  all_goals go_ret
  all_goals exact ⟨rfl, hb4⟩
end Go.Proofs.YthofndobmiamjaaDoor
