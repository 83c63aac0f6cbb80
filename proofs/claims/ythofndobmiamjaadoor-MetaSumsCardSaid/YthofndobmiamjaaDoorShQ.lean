/-
  meta: checked, Of, End with whatever answer; the reference's.
-/
import Derived.Test.YthofndobmiamjaaDoorShM
import Derived.Test.YthofndobmiamjaaDoorShO
import Derived.Test.YthofndobmiamjaaDoorMeY
namespace Go.Proofs.YthofndobmiamjaaDoor
open Go.RowKit

abbrev TT2 : TypeId := 34
abbrev zero6 : Array Value := #[.int .i64 0, .int .i64 0, .int .i64 0, .int .i64 0, .bool false, .slice none 0 0]
theorem results_meta {fn : Func} {p u : Tmp} (hf : fn.results = #[.cell p MT6, .tmp u]) {w : World} {g1 : Nat} {cs : Array Value} (k1 : w.heap[g1]? = some (.cells cs MT6 (0, 0))) (hs : cs.size = 6) (tmps : Array Value) (hp : tmps.getD p undef = .pointer (some ⟨g1, 0, none⟩)) : (results fn tmps).run Tryd.prog w = .ok (.tuple #[.agg cs, tmps.getD u undef]) w := by
  rw [results_cell_tmp hf, hp]
  simp only [asAddr, Sem.run_pure, Result.andThen_ok]
  rw [run_loadVar_row w g1 MT6 MT6 cs (0, 0) _ k1 Tryd.underlying36 rfl (by rw [hs]; kernel_rfl)]
  rfl
set_option maxRecDepth 10000 in
set_option maxHeartbeats 2000000 in
theorem checked_yes {N c s t : Int} {d : Bool} {sa : Option Addr} {sn sc : Nat} (h : metaB N c s t d sn = true) (w : World) : Calls Tryd.prog 38 #[.agg #[.int .i64 N, .int .i64 c, .int .i64 s, .int .i64 t, .bool d, .slice sa sn sc]] w fun e w' => e = .returned (.tuple #[.agg #[.int .i64 N, .int .i64 c, .int .i64 s, .int .i64 t, .bool d, .slice sa sn sc], .int .i64 0]) ∧ Below w.heap.size w w' := by
  have KR := fun w => check_yes (sa := sa) (sc := sc) h w
  clear h
  go_enter Tryd.func38, Tryd.ntmps38
  go_wp2_with (first
    | (go_at_call 23; (with_reducible refine (KR _).mono ?_); rintro e w1 ⟨rfl, hd1⟩; obtain ⟨h1, h2, hb1⟩ := after_call2 _ _ _ _ hd1; obtain ⟨c0, c1, c2, c3, c4, c5, cF⟩ := cells6M h1; obtain ⟨d0, d1, d2, d3, d4, d5, dF⟩ := cells6M h2))
  exact bodyPost_ret (results_meta rfl (set6_heap _ _ _ _ _ _ h2) rfl _ rfl) rfl ⟨rfl, set6_below hb1 (Nat.le_succ _) _ _ _ _ _ _⟩
set_option maxRecDepth 10000 in
set_option maxHeartbeats 2000000 in
theorem checked_no {N c s t : Int} {d : Bool} {sa : Option Addr} {sn sc : Nat} (h : metaB N c s t d sn = false) (w : World) : Calls Tryd.prog 38 #[.agg #[.int .i64 N, .int .i64 c, .int .i64 s, .int .i64 t, .bool d, .slice sa sn sc]] w fun e w' => e = .returned (.tuple #[.agg zero6, .int .i64 90]) ∧ Below w.heap.size w w' := by
  have KR := fun w => check_no (sa := sa) (sc := sc) h w
  clear h
  go_enter Tryd.func38, Tryd.ntmps38
  go_wp2_with (first
    | (go_at_call 23; (with_reducible refine (KR _).mono ?_); rintro e w1 ⟨rfl, hd1⟩; obtain ⟨h1, h2, hb1⟩ := after_call2 _ _ _ _ hd1; obtain ⟨c0, c1, c2, c3, c4, c5, cF⟩ := cells6M h1; obtain ⟨d0, d1, d2, d3, d4, d5, dF⟩ := cells6M h2))
  exact bodyPost_ret (results_meta rfl (set6_heap _ _ _ _ _ _ h2) rfl _ rfl) rfl ⟨rfl, set6_below hb1 (Nat.le_succ _) _ _ _ _ _ _⟩
set_option maxRecDepth 10000 in
set_option maxHeartbeats 2000000 in
theorem end_yes {N c : Int} (h : tagB N c = true) (w : World) : Calls Tryd.prog 21 #[.agg #[.int .i64 N, .int .i64 c]] w fun e w' => e = .returned (.tuple #[.agg #[.int .i64 N, .int .i64 c, .int .i64 0, .int .i64 0, .bool true, .slice none 0 0], .int .i64 0]) ∧ Below w.heap.size w w' := by
  have KR := fun w => checked_yes (N := N) (c := c) (s := 0) (t := 0) (d := true) (sa := none) (sn := 0) (sc := 0) (by unfold metaB; rw [h]; rfl) w
  clear h
  go_enter Tryd.func21, Tryd.ntmps21
  go_wp2_with (first
    | (go_at_call 38; (with_reducible refine (KR _).mono ?_); rintro e w1 ⟨rfl, hd1⟩; obtain ⟨h1, h2, hb1⟩ := after_call2 _ _ _ _ hd1; obtain ⟨d0, d1, d2, d3, d4, d5, dF⟩ := cells6M h2))
  exact bodyPost_ret (results_meta rfl (set6_heap _ _ _ _ _ _ h2) rfl _ rfl) rfl ⟨rfl, set6_below hb1 (Nat.le_succ _) _ _ _ _ _ _⟩
set_option maxRecDepth 10000 in
set_option maxHeartbeats 2000000 in
theorem end_no {N c : Int} (h : tagB N c = false) (w : World) : Calls Tryd.prog 21 #[.agg #[.int .i64 N, .int .i64 c]] w fun e w' => e = .returned (.tuple #[.agg zero6, .int .i64 90]) ∧ Below w.heap.size w w' := by
  have KR := fun w => checked_no (N := N) (c := c) (s := 0) (t := 0) (d := true) (sa := none) (sn := 0) (sc := 0) (by unfold metaB; rw [h, Bool.and_false]) w
  clear h
  go_enter Tryd.func21, Tryd.ntmps21
  go_wp2_with (first
    | (go_at_call 38; (with_reducible refine (KR _).mono ?_); rintro e w1 ⟨rfl, hd1⟩; obtain ⟨h1, h2, hb1⟩ := after_call2 _ _ _ _ hd1; obtain ⟨d0, d1, d2, d3, d4, d5, dF⟩ := cells6M h2))
  exact bodyPost_ret (results_meta rfl (set6_heap _ _ _ _ _ _ h2) rfl _ rfl) rfl ⟨rfl, set6_below hb1 (Nat.le_succ _) _ _ _ _ _ _⟩
set_option maxRecDepth 10000 in
set_option maxHeartbeats 2000000 in
theorem refEnd_yes {N c : Int} (h : tagB N c = true) (w : World) : Calls Tryd.prog 22 #[.agg #[.int .i64 N, .int .i64 c]] w fun e w' => e = .returned (.tuple #[.agg #[.int .i64 N, .int .i64 c, .int .i64 0, .int .i64 0, .bool true, .slice none 0 0], .int .i64 0]) ∧ Below w.heap.size w w' := by
  have KR := fun w => refTag_any N c w
  rw [h] at KR
  clear h
  go_enter Tryd.func22, Tryd.ntmps22
  go_wp2_with fail
  (with_reducible refine (KR _).mono ?_)
  rintro e w1 ⟨rfl, hd1⟩
  obtain ⟨h1, h2, hb1⟩ := after_call2 _ _ _ _ hd1
  obtain ⟨d0, d1, d2, d3, d4, d5, dF⟩ := cells6M h2
  have e0 : w1.cell? ⟨w.heap.size, 0, none⟩ = some (.int .i64 N) := cell_of_row _ _ 0 _ _ _ h1
  have e1 : w1.cell? ⟨w.heap.size, 1, none⟩ = some (.int .i64 c) := cell_of_row _ _ 1 _ _ _ h1
  clear KR hd1
  go_wp2
  exact bodyPost_ret (results_meta rfl (set6_heap _ _ _ _ _ _ h2) rfl _ rfl) rfl ⟨rfl, set6_below hb1 (Nat.le_succ _) _ _ _ _ _ _⟩
set_option maxRecDepth 10000 in
set_option maxHeartbeats 2000000 in
theorem refEnd_no {N c : Int} (h : tagB N c = false) (w : World) : Calls Tryd.prog 22 #[.agg #[.int .i64 N, .int .i64 c]] w fun e w' => e = .returned (.tuple #[.agg zero6, .int .i64 90]) ∧ Below w.heap.size w w' := by
  have KR := fun w => refTag_any N c w
  rw [h] at KR
  clear h
  go_enter Tryd.func22, Tryd.ntmps22
  go_wp2_with fail
  (with_reducible refine (KR _).mono ?_)
  rintro e w1 ⟨rfl, hd1⟩
  obtain ⟨h1, h2, hb1⟩ := after_call2 _ _ _ _ hd1
  obtain ⟨d0, d1, d2, d3, d4, d5, dF⟩ := cells6M h2
  clear KR hd1
  go_wp2
  exact bodyPost_ret (results_meta rfl (set6_heap _ _ _ _ _ _ h2) rfl _ rfl) rfl ⟨rfl, set6_below hb1 (Nat.le_succ _) _ _ _ _ _ _⟩
set_option maxRecDepth 10000 in
set_option maxHeartbeats 2000000 in
theorem refCheck_any (N c s t : Int) (d : Bool) (sa : Option Addr) (sn sc : Nat) (w : World) :
    Calls Tryd.prog 25 #[.agg #[.int .i64 N, .int .i64 c, .int .i64 s, .int .i64 t, .bool d, .slice sa sn sc]] w fun e w' => e = .returned (.int .i64 (if metaB N c s t d sn = true then 0 else 90)) ∧ Below w.heap.size w w' := by
  have KR := fun w => refRight_any N c s t d sa sn sc w
  obtain ⟨B, hB⟩ : ∃ B, B = metaB N c s t d sn := ⟨_, rfl⟩
  rw [← hB] at KR ⊢
  clear hB
  cases B with
  | true =>
    go_enter Tryd.func25, Tryd.ntmps25
    go_wp2_with fail
    (with_reducible refine (KR _).mono ?_)
    rintro e w1 ⟨rfl, hd1⟩
    clear KR
    go_wp2
    go_ret
    exact ⟨rfl, (below_alloc w _).trans (hd1.mono (by simp))⟩
  | false =>
    go_enter Tryd.func25, Tryd.ntmps25
    go_wp2_with fail
    (with_reducible refine (KR _).mono ?_)
    rintro e w1 ⟨rfl, hd1⟩
    clear KR
    go_wp2
    go_ret
    exact ⟨rfl, (below_alloc w _).trans (hd1.mono (by simp))⟩
end Go.Proofs.YthofndobmiamjaaDoor
