/-
  The walks of TupleRands and TupleGrows.
-/
import Derived.Test.YtlmnijcocfjpoaaDoorTuE
import Derived.Test.YtlmnijcocfjpoaaDoorLaw
namespace Go.Proofs.YtlmnijcocfjpoaaDoor
open Go.RowKit
set_option linter.unusedVariables false

def rdV (y i m : Int) : Int := if m < 1 then 0 else rz y i % m
theorem rand_all (y i m : Int) (w : World) (hm2 : m ≤ 9223372036854775807) :
    Calls Tryd.prog 11 #[.int .i64 y, .int .i64 i, .int .i64 m] w fun e w' => e = .returned (.int .i64 (rdV y i m)) ∧ w = w' := by
  unfold rdV
  split
  · exact rand_none y i m w (by omega)
  · exact rand_any y i m w (by omega) hm2
theorem refRand_all (y i m : Int) (w : World) (hm2 : m ≤ 9223372036854775807) :
    Calls Tryd.prog 12 #[.int .i64 y, .int .i64 i, .int .i64 m] w fun e w' => e = .returned (.int .i64 (rdV y i m)) ∧ w = w' := by
  unfold rdV
  split
  · exact refRand_none y i m w (by omega)
  · exact refRand_any y i m w (by omega) hm2

set_option maxRecDepth 10000 in
set_option maxHeartbeats 1000000 in
theorem tupleRands_walk (y i m v x : Int) (W : World) (hg : Bnd W) (w0 : (Lit.int .i64 y).wf = true) (w1 : (Lit.int .i64 i).wf = true) (w2 : (Lit.int .i64 m).wf = true) (w3 : (Lit.int .i64 v).wf = true) (w4 : (Lit.int .i64 x).wf = true) :
    Calls Tryd.prog 4 #[.int .i64 y, .int .i64 i, .int .i64 m, .int .i64 v, .int .i64 x] W fun e W' => e = .returned (.bool true) ∧ Below W.heap.size W W' := by
  obtain ⟨m0, m1⟩ := wf_i64 w2
  obtain ⟨x0, x1⟩ := wf_i64 w4
  clear w0 w1 w2 w3 w4
  have KR := fun w => rand_all y i m w m1
  have KS := fun w => refRand_all y i m w m1
  go_enter Tryd.func4, Tryd.ntmps4
  go_wp2_with (first
    | (go_at_call 8; (with_reducible refine (alive_any _ hg).mono ?_); rintro e w1 ⟨rfl, hb1⟩; have hg1 := hg.below hb1)
    | (go_at_call 11; (with_reducible refine (KR _).mono ?_); rintro e w2 ⟨rfl, rfl⟩)
    | (go_at_call 12; (with_reducible refine (KS _).mono ?_); rintro e w2 ⟨rfl, rfl⟩)
    | (go_at_call 13; (with_reducible refine (degree_call v x _ x0 x1 hg1).mono ?_); rintro e w2 ⟨rfl, rfl⟩)
    | (go_at_call 14; (with_reducible refine (refDegree_any v x _ ⟨x0, x1⟩).mono ?_); rintro e w2 ⟨rfl, hb2⟩))
  all_goals go_ret
  all_goals first | exact ⟨rfl, hb1⟩ | exact ⟨rfl, hb1.trans (hb2.mono hb1.size)⟩ | exact ⟨ret_bool (by simp), hb1.trans (hb2.mono hb1.size)⟩ | trace_state

theorem cnt_mono (v : Int) : ∀ k, cnt v k ≤ cnt (v + 1) k
  | 0 => Nat.le_refl _
  | k + 1 => by
    have := cnt_mono v k
    rw [cnt_succ, cnt_succ]
    by_cases h : bnds.getD k 0 ≤ v
    · rw [if_pos h, if_pos (by omega)]; omega
    · rw [if_neg h]
      split <;> omega
theorem deg0_mono (v : Int) : deg0 v ≤ deg0 (v + 1) := by
  have := cnt_mono v 30
  unfold deg0
  omega
theorem degS_mono (v x : Int) : degS v x ≤ degS (v + 1) x := by
  have h := deg0_mono v
  unfold degS
  split
  · split <;> omega
  · split <;> omega
theorem degS_one (v x : Int) : 1 ≤ degS v x ∧ degS v x ≤ 30 := by
  have : 1 ≤ deg0 v ∧ deg0 v ≤ 30 := by unfold deg0; omega
  unfold degS
  split <;> omega
theorem rdV_range (y i m : Int) (hm : 1 ≤ m) : 0 ≤ rdV y i m ∧ rdV y i m < m := by
  unfold rdV
  rw [if_neg (by omega)]
  exact ⟨Int.emod_nonneg _ (by omega), Int.emod_lt_of_pos _ (by omega)⟩

set_option maxRecDepth 10000 in
set_option maxHeartbeats 1000000 in
theorem tupleGrows_walk (y i m v x : Int) (W : World) (hg : Bnd W) (w0 : (Lit.int .i64 y).wf = true) (w1 : (Lit.int .i64 i).wf = true) (w2 : (Lit.int .i64 m).wf = true) (w3 : (Lit.int .i64 v).wf = true) (w4 : (Lit.int .i64 x).wf = true) :
    Calls Tryd.prog 7 #[.int .i64 y, .int .i64 i, .int .i64 m, .int .i64 v, .int .i64 x] W fun e W' => e = .returned (.bool true) ∧ Below W.heap.size W W' := by
  obtain ⟨m0, m1⟩ := wf_i64 w2
  obtain ⟨x0, x1⟩ := wf_i64 w4
  obtain ⟨v0, v1⟩ := wf_i64 w3
  clear w0 w1 w2 w3 w4
  by_cases hm : m < 1
  · have KR : ∀ w, Calls Tryd.prog 11 #[.int .i64 y, .int .i64 i, .int .i64 m] w fun e w' => e = .returned (.int .i64 0) ∧ w = w' := fun w => rand_none y i m w hm
    go_enter Tryd.func7, Tryd.ntmps7
    go_wp2_with (first
      | (go_at_call 8; (with_reducible refine (alive_any _ hg).mono ?_); rintro e w1 ⟨rfl, hb1⟩; have hg1 := hg.below hb1)
      | (go_at_call 11; (with_reducible refine (KR _).mono ?_); rintro e w2 ⟨rfl, rfl⟩))
    all_goals go_ret
    all_goals exact ⟨rfl, hb1⟩
  · have KR := fun w => rand_all y i m w m1
    have hr := rdV_range y i m (by omega)
    obtain ⟨r, hrd⟩ : ∃ r, r = rdV y i m := ⟨_, rfl⟩
    rw [← hrd] at hr KR
    obtain ⟨r0, r1⟩ := hr
    by_cases hv : v > 1099511627776 ∨ v < -1099511627776
    · have hv2 : 1099511627776 < v ∨ v < -1099511627776 := hv
      rcases hv2 with hv2 | hv2
      all_goals
        go_enter Tryd.func7, Tryd.ntmps7
        go_wp2_with (first
          | (go_at_call 8; (with_reducible refine (alive_any _ hg).mono ?_); rintro e w1 ⟨rfl, hb1⟩; have hg1 := hg.below hb1)
          | (go_at_call 11; (with_reducible refine (KR _).mono ?_); rintro e w2 ⟨rfl, rfl⟩))
        all_goals go_ret
        all_goals exact ⟨rfl, hb1⟩
    · have KA := fun w hg => degree_call v x w x0 x1 hg
      have KB := fun w hg => degree_call (v + 1) x w x0 x1 hg
      have ha := degS_one v x
      have hab := degS_mono v x
      obtain ⟨a, hda⟩ : ∃ a, a = degS v x := ⟨_, rfl⟩
      obtain ⟨b, hdb⟩ : ∃ b, b = degS (v + 1) x := ⟨_, rfl⟩
      rw [← hda] at ha hab KA
      rw [← hdb] at hab KB
      obtain ⟨a0, a1⟩ := ha
      have hv3 : v ≤ 1099511627776 := by omega
      have hv4 : -1099511627776 ≤ v := by omega
      go_enter Tryd.func7, Tryd.ntmps7
      go_wp2_with (first
        | (go_at_call 8; (with_reducible refine (alive_any _ hg).mono ?_); rintro e w1 ⟨rfl, hb1⟩; have hg1 := hg.below hb1)
        | (go_at_call 11; (with_reducible refine (KR _).mono ?_); rintro e w2 ⟨rfl, rfl⟩)
        | (go_at_call 13; (with_reducible refine (KA _ hg1).mono ?_); rintro e w2 ⟨rfl, rfl⟩)
        | (go_at_call 13; (with_reducible refine (KB _ hg1).mono ?_); rintro e w2 ⟨rfl, rfl⟩))
      all_goals go_ret
      all_goals first | exact ⟨rfl, hb1⟩ | exact ⟨ret_bool (decide_eq_true (degS_mono v x)), hb1⟩
end Go.Proofs.YtlmnijcocfjpoaaDoor
