/-
  The walk of TupleParams.
-/
import Derived.Test.YtlmnijcocfjpoaaDoorTuE
import Derived.Test.YtlmnijcocfjpoaaDoorTuB
import Derived.Test.YtlmnijcocfjpoaaDoorLaw
namespace Go.Proofs.YtlmnijcocfjpoaaDoor
open Go.RowKit
set_option linter.unusedVariables false

set_option maxRecDepth 10000 in
set_option maxHeartbeats 1000000 in
theorem tupleParams_walk (k : Int) (W : World) (hg : Bnd W) (w0 : (Lit.int .i64 k).wf = true) :
    Calls Tryd.prog 3 #[.int .i64 k] W fun e W' => e = .returned (.bool true) ∧ Below W.heap.size W W' := by
  obtain ⟨k0, k1⟩ := wf_i64 w0
  clear w0
  by_cases hk : 1 ≤ k ∧ k ≤ 32
  · obtain ⟨n, rfl⟩ : ∃ n : Nat, k = n := ⟨k.toNat, by omega⟩
    have PA := fun w => params_any n w (by omega) (by omega)
    have PB := fun w => refParams_any n w (by omega) (by omega)
    unfold codeV at PA PB
    go_enter Tryd.func3, Tryd.ntmps3
    go_wp2_with (first
      | (go_at_call 8; (with_reducible refine (alive_any _ hg).mono ?_); rintro e w1 ⟨rfl, hb1⟩)
      | (go_at_call 9; (with_reducible refine (PA _).mono ?_); rintro e w2 ⟨rfl, hb2⟩)
      | (go_at_call 10; (with_reducible refine (PB _).mono ?_); rintro e w3 ⟨rfl, hb3⟩; have hlt := Nat.lt_of_lt_of_le (Nat.lt_succ_self _) (by simpa using hb3.size : w2.heap.size + 1 ≤ w3.heap.size); have hc := fun o => (heap_alloc_old w3 o hlt).trans ((hb3.block w2.heap.size (by simp)).trans (heap_alloc_new _ _)))
      | ((with_reducible show wpList _ _ _ (⟨_, Op.load 24 (.tmp 3), _, _, _, _⟩ :: _) _ _); (refine wpList_load_row rfl 24 (.tmp 3) rfl w2.heap.size rfl 24 _ (0, 0) _ (hc _) Tryd.underlying24 rfl (by kernel_rfl) ?_)))
    all_goals go_ret
    all_goals first | exact ⟨rfl, ((hb1.trans (hb2.mono hb1.size)).trans (((below_alloc _ _).trans (hb3.mono (by simp))).mono (Nat.le_trans hb1.size hb2.size))).alloc (Nat.le_trans hb1.size (Nat.le_trans hb2.size (Nat.le_of_lt hlt))) _⟩ | exact ⟨rfl, hb1⟩ | trace_state
  · have PA := fun w => params_bad k w (by omega)
    have PB := fun w => refParams_bad k w (by omega)
    unfold codeZ at PA PB
    go_enter Tryd.func3, Tryd.ntmps3
    go_wp2_with (first
      | (go_at_call 8; (with_reducible refine (alive_any _ hg).mono ?_); rintro e w1 ⟨rfl, hb1⟩)
      | (go_at_call 9; (with_reducible refine (PA _).mono ?_); rintro e w2 ⟨rfl, hb2⟩)
      | (go_at_call 10; (with_reducible refine (PB _).mono ?_); rintro e w3 ⟨rfl, hb3⟩; have hlt := Nat.lt_of_lt_of_le (Nat.lt_succ_self _) (by simpa using hb3.size : w2.heap.size + 1 ≤ w3.heap.size); have hc := fun o => (heap_alloc_old w3 o hlt).trans ((hb3.block w2.heap.size (by simp)).trans (heap_alloc_new _ _)))
      | ((with_reducible show wpList _ _ _ (⟨_, Op.load 24 (.tmp 3), _, _, _, _⟩ :: _) _ _); (refine wpList_load_row rfl 24 (.tmp 3) rfl w2.heap.size rfl 24 _ (0, 0) _ (hc _) Tryd.underlying24 rfl (by kernel_rfl) ?_)))
    all_goals go_ret
    all_goals first | exact ⟨rfl, ((hb1.trans (hb2.mono hb1.size)).trans (((below_alloc _ _).trans (hb3.mono (by simp))).mono (Nat.le_trans hb1.size hb2.size))).alloc (Nat.le_trans hb1.size (Nat.le_trans hb2.size (Nat.le_of_lt hlt))) _⟩ | exact ⟨rfl, hb1⟩ | trace_state
end Go.Proofs.YtlmnijcocfjpoaaDoor
