/-
  The walk of TupleBounds.
-/
import Derived.Test.YtlmnijcocfjpoaaDoorTuG
import Derived.Test.YtlmnijcocfjpoaaDoorTuH
import Derived.Test.YtlmnijcocfjpoaaDoorTuN
import Derived.Test.YtlmnijcocfjpoaaDoorLaw
namespace Go.Proofs.YtlmnijcocfjpoaaDoor
open Go.RowKit
set_option linter.unusedVariables false

theorem cJ_or (k : Nat) : cJ k = 0 ∨ cJ k = 2 := by
  unfold cJ
  split <;> simp
theorem tuple_all (k : Nat) (x : Int) (h1 : 1 ≤ k) (hk : k ≤ 32) (hx0 : 0 ≤ x) (hx1 : x ≤ 16777219) : ∃ y, ∀ w, Bnd w →
    Calls Tryd.prog 15 #[.int .i64 (k : Int), .int .i64 x] w fun e w' => e = .returned (.tuple #[tupV y x (cW k : Nat) (cP1 k : Nat), .int .i64 0]) ∧ Below w.heap.size w w' := by
  rcases cJ_or k with h | h
  · exact ⟨_, fun w hg => tuple_j0 k x w h1 hk h hx0 hx1 hg⟩
  · exact ⟨_, fun w hg => tuple_j2 k x w h1 hk h hx0 hx1 hg⟩

theorem tupV_facts (y x W P1 : Int) (hW : 7 ≤ W) (hP : 4 ≤ P1) : ∃ d a b d1 a1 b1 : Int, tupV y x W P1 = .agg #[.int .i64 d, .int .i64 a, .int .i64 b, .int .i64 d1, .int .i64 a1, .int .i64 b1] ∧
    1 ≤ d ∧ d ≤ W - 2 ∧ 1 ≤ a ∧ a < W ∧ 0 ≤ b ∧ b < W ∧ 2 ≤ d1 ∧ d1 ≤ 3 ∧ 1 ≤ a1 ∧ a1 < P1 ∧ 0 ≤ b1 ∧ b1 < P1 := by
  refine ⟨_, _, _, _, _, _, rfl, ?_⟩
  have h0 := degS_range (rz y 0 % 1048576) W
  have h00 : degS (rz y 0 % 1048576) W ≤ W - 2 := by
    unfold degS
    split <;> omega
  have h1 := rz_range2 y 1 (W - 1) (by omega)
  have h2 := rz_range2 y 2 W (by omega)
  have h3 := rz_range2 x 3 2 (by omega)
  have h4 := rz_range2 x 4 (P1 - 1) (by omega)
  have h5 := rz_range2 x 5 P1 (by omega)
  have h6 : 2 ≤ tupD1 y x W ∧ tupD1 y x W ≤ 3 := by
    unfold tupD1
    split <;> omega
  unfold tupD
  refine ⟨by omega, by omega, by omega, by omega, by omega, by omega, by omega, by omega, by omega, by omega, by omega, by omega⟩

set_option maxRecDepth 10000 in
set_option maxHeartbeats 4000000 in
theorem tupleBounds_walk (k x : Int) (W : World) (hg : Bnd W) (w0 : (Lit.int .i64 k).wf = true) (w1 : (Lit.int .i64 x).wf = true) :
    Calls Tryd.prog 6 #[.int .i64 k, .int .i64 x] W fun e W' => e = .returned (.bool true) ∧ Below W.heap.size W W' := by
  obtain ⟨k0, k1⟩ := wf_i64 w0
  obtain ⟨x0, x1⟩ := wf_i64 w1
  clear w0 w1
  by_cases hk : 1 ≤ k ∧ k ≤ 32
  · obtain ⟨n, rfl⟩ : ∃ n : Nat, k = n := ⟨k.toNat, by omega⟩
    have PA := fun w => params_any n w (by omega) (by omega)
    unfold codeV at PA
    by_cases hx : 0 ≤ x ∧ x ≤ 16777219
    · obtain ⟨y, TA⟩ := tuple_all n x (by omega) (by omega) (by omega) (by omega)
      obtain ⟨f1, f2, f3, f4, f5, f6, f7, f8, f9, f10, f11, f12, f13, f14⟩ := code_facts (k := n) (by omega) (by omega)
      have hL : cL n = cKp n + cS n + 4 := rfl
      have hB : 1 ≤ cB n := by unfold cB; omega
      obtain ⟨d, a, b, d1, a1, b1, hV, t1, t2, t3, t4, t5, t6, t7, t8, t9, t10, t11, t12⟩ := tupV_facts y x (cW n : Nat) (cP1 n : Nat) (by omega) (by omega)
      rw [hV] at TA
      clear hV
      go_enter Tryd.func6, Tryd.ntmps6
      go_wp2_with (first
        | (go_at_call 8; (with_reducible refine (alive_any _ hg).mono ?_); rintro e w1 ⟨rfl, hb1⟩; have hg1 := hg.below hb1)
        | (go_at_call 9; (with_reducible refine (PA _).mono ?_); rintro e w2 ⟨rfl, hb2⟩; have hg2 := hg1.below hb2)
        | (go_at_call 15; (with_reducible refine (TA _ hg2.alloc).mono ?_); rintro e w3 ⟨rfl, hb3⟩; obtain ⟨hold, hbw, hold0, hbw0⟩ := after_call _ _ _ hb3; have c1 : ∀ o, (w3.alloc o).cell? ⟨w2.heap.size, 1, none⟩ = some (.int .i64 ((cKp n : Nat))) := fun o => cell_of_row _ _ 1 _ _ _ (hold o); have c2 : ∀ o, (w3.alloc o).cell? ⟨w2.heap.size, 2, none⟩ = some (.int .i64 ((cS n : Nat))) := fun o => cell_of_row _ _ 2 _ _ _ (hold o); have c3 : ∀ o, (w3.alloc o).cell? ⟨w2.heap.size, 3, none⟩ = some (.int .i64 (4)) := fun o => cell_of_row _ _ 3 _ _ _ (hold o); have c4 : ∀ o, (w3.alloc o).cell? ⟨w2.heap.size, 4, none⟩ = some (.int .i64 ((cL n : Nat))) := fun o => cell_of_row _ _ 4 _ _ _ (hold o); have c5 : ∀ o, (w3.alloc o).cell? ⟨w2.heap.size, 5, none⟩ = some (.int .i64 ((cW n : Nat))) := fun o => cell_of_row _ _ 5 _ _ _ (hold o); have c6 : ∀ o, (w3.alloc o).cell? ⟨w2.heap.size, 6, none⟩ = some (.int .i64 ((cP n : Nat))) := fun o => cell_of_row _ _ 6 _ _ _ (hold o); have c7 : ∀ o, (w3.alloc o).cell? ⟨w2.heap.size, 7, none⟩ = some (.int .i64 ((cP1 n : Nat))) := fun o => cell_of_row _ _ 7 _ _ _ (hold o); have c8 : ∀ o, (w3.alloc o).cell? ⟨w2.heap.size, 8, none⟩ = some (.int .i64 ((cB n : Nat))) := fun o => cell_of_row _ _ 8 _ _ _ (hold o)))
      all_goals go_ret
      all_goals first | exact ⟨rfl, (hb1.trans (hb2.mono hb1.size)).trans ((hbw _).mono (Nat.le_trans hb1.size hb2.size))⟩ | trace_state
    · have TA := fun w => tuple_badx n x w (by omega) (by omega) (by omega)
      unfold tupZ at TA
      rcases (show x < 0 ∨ 16777219 < x by omega) with h | h
      all_goals
        go_enter Tryd.func6, Tryd.ntmps6
        go_wp2_with (first
          | (go_at_call 8; (with_reducible refine (alive_any _ hg).mono ?_); rintro e w1 ⟨rfl, hb1⟩; have hg1 := hg.below hb1)
          | (go_at_call 9; (with_reducible refine (PA _).mono ?_); rintro e w2 ⟨rfl, hb2⟩; have hg2 := hg1.below hb2)
          | (go_at_call 15; (with_reducible refine (TA _).mono ?_); rintro e w3 ⟨rfl, hb3⟩; obtain ⟨hold, hbw, hold0, hbw0⟩ := after_call _ _ _ hb3))
        all_goals go_ret
        all_goals exact ⟨rfl, (hb1.trans (hb2.mono hb1.size)).trans ((hbw _).mono (Nat.le_trans hb1.size hb2.size))⟩
  · have PA := fun w => params_bad k w (by omega)
    unfold codeZ at PA
    have TA := fun w => tuple_badk k x w (by omega)
    unfold tupZ at TA
    rcases (show k < 1 ∨ 32 < k by omega) with h | h
    all_goals
      go_enter Tryd.func6, Tryd.ntmps6
      go_wp2_with (first
        | (go_at_call 8; (with_reducible refine (alive_any _ hg).mono ?_); rintro e w1 ⟨rfl, hb1⟩; have hg1 := hg.below hb1)
        | (go_at_call 9; (with_reducible refine (PA _).mono ?_); rintro e w2 ⟨rfl, hb2⟩; have hg2 := hg1.below hb2)
        | (go_at_call 15; (with_reducible refine (TA _).mono ?_); rintro e w3 ⟨rfl, hb3⟩; obtain ⟨hold, hbw, hold0, hbw0⟩ := after_call _ _ _ hb3))
      all_goals go_ret
      all_goals exact ⟨rfl, (hb1.trans (hb2.mono hb1.size)).trans ((hbw _).mono (Nat.le_trans hb1.size hb2.size))⟩
end Go.Proofs.YtlmnijcocfjpoaaDoor
