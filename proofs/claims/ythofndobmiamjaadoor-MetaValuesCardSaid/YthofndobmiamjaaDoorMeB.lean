/-
  meta: checked, End.
-/
import Derived.Test.YthofndobmiamjaaDoorMeA
namespace Go.Proofs.YthofndobmiamjaaDoor
open Go.RowKit

theorem after_callM (w w1 : World) (o : Obj) (hb : Below (w.alloc o).heap.size (w.alloc o) w1) : w1.heap[w.heap.size]? = some o ∧ Below w.heap.size w w1 :=
  ⟨(hb.block w.heap.size (by simp)).trans (heap_alloc_new w o), ((Below.refl _ _).alloc (Nat.le_refl _) o).trans (hb.mono (by simp))⟩
theorem after_call2 (w w1 : World) (o p : Obj) (hb : Below ((w.alloc o).alloc p).heap.size ((w.alloc o).alloc p) w1) : w1.heap[w.heap.size]? = some o ∧ w1.heap[w.heap.size + 1]? = some p ∧ Below w.heap.size w w1 := by
  refine ⟨?_, ?_, ?_⟩
  · rw [hb.block w.heap.size (by simp; omega), heap_alloc_old _ _ (by simp)]; exact heap_alloc_new _ _
  · rw [hb.block (w.heap.size + 1) (by simp)]
    have := heap_alloc_new (w.alloc o) p
    simpa using this
  · exact ((below_alloc w o).alloc (by simp) p).trans (hb.mono (by simp; omega))
theorem cells6M {w : World} {b : Nat} {v0 v1 v2 v3 v4 v5 : Value} {T : TypeId} (h : w.heap[b]? = some (.cells #[v0, v1, v2, v3, v4, v5] T (0, 0))) :
    w.cell? ⟨b, 0, none⟩ = some v0 ∧ w.cell? ⟨b, 1, none⟩ = some v1 ∧ w.cell? ⟨b, 2, none⟩ = some v2 ∧ w.cell? ⟨b, 3, none⟩ = some v3 ∧ w.cell? ⟨b, 4, none⟩ = some v4 ∧ w.cell? ⟨b, 5, none⟩ = some v5 ∧ ∀ j, w.frozen? ⟨b, j, none⟩ = false :=
  ⟨cell_of_row _ _ 0 _ _ _ h, cell_of_row _ _ 1 _ _ _ h, cell_of_row _ _ 2 _ _ _ h, cell_of_row _ _ 3 _ _ _ h, cell_of_row _ _ 4 _ _ _ h, cell_of_row _ _ 5 _ _ _ h, fun _ => frozen_of_row _ _ _ _ _ h⟩
def set6 (w : World) (g : Nat) (v0 v1 v2 v3 v4 v5 : Value) : World := (((((w.setCell ⟨g, 0, none⟩ v0).setCell ⟨g, 1, none⟩ v1).setCell ⟨g, 2, none⟩ v2).setCell ⟨g, 3, none⟩ v3).setCell ⟨g, 4, none⟩ v4).setCell ⟨g, 5, none⟩ v5
theorem set6_heap {w : World} {g : Nat} {T : TypeId} {z0 z1 z2 z3 z4 z5 : Value} (v0 v1 v2 v3 v4 v5 : Value) (h : w.heap[g]? = some (.cells #[z0, z1, z2, z3, z4, z5] T (0, 0))) : (set6 w g v0 v1 v2 v3 v4 v5).heap[g]? = some (.cells #[v0, v1, v2, v3, v4, v5] T (0, 0)) :=
  heap_setCell_same _ _ 5 _ _ _ (heap_setCell_same _ _ 4 _ _ _ (heap_setCell_same _ _ 3 _ _ _ (heap_setCell_same _ _ 2 _ _ _ (heap_setCell_same _ _ 1 _ _ _ (heap_setCell_same _ _ 0 _ _ _ h)))))
theorem set6_below {B : Nat} {a w : World} (h : Below B a w) {g : Nat} (hg : B ≤ g) (v0 v1 v2 v3 v4 v5 : Value) : Below B a (set6 w g v0 v1 v2 v3 v4 v5) :=
  ((((((h.setCell (p := ⟨g, 0, none⟩) hg v0).setCell (p := ⟨g, 1, none⟩) hg v1).setCell (p := ⟨g, 2, none⟩) hg v2).setCell (p := ⟨g, 3, none⟩) hg v3).setCell (p := ⟨g, 4, none⟩) hg v4).setCell (p := ⟨g, 5, none⟩) hg v5)

theorem loadVar_meta (w : World) (g : Nat) (cs : Array Value) (hg : w.heap[g]? = some (.cells cs 36 (0, 0))) (hs : cs.size = 6) : (loadVar 36 ⟨g, 0, none⟩).run Tryd.prog w = .ok (.agg cs) w :=
  run_loadVar_row w g 36 36 cs (0, 0) _ hg Tryd.underlying36 rfl (by rw [hs]; kernel_rfl)
theorem results_chk (tmps : Array Value) (w : World) (g : Nat) (cs : Array Value) (n : Int) (hp : tmps.getD 2 undef = .pointer (some ⟨g, 0, none⟩)) (h3 : tmps.getD 3 undef = .int .i64 n) (hg : w.heap[g]? = some (.cells cs 36 (0, 0))) (hs : cs.size = 6) :
    (results Tryd.f38 tmps).run Tryd.prog w = .ok (.tuple #[.agg cs, .int .i64 n]) w := by
  have hp' : tmps[2]?.getD undef = .pointer (some ⟨g, 0, none⟩) := by simpa using hp
  have h3' : tmps[3]?.getD undef = .int .i64 n := by simpa using h3
  simp [results, Tryd.results38, hp', h3', asAddr, loadVar_meta w g cs hg hs]
theorem results_end (tmps : Array Value) (w : World) (g : Nat) (cs : Array Value) (n : Int) (hp : tmps.getD 2 undef = .pointer (some ⟨g, 0, none⟩)) (h3 : tmps.getD 3 undef = .int .i64 n) (hg : w.heap[g]? = some (.cells cs 36 (0, 0))) (hs : cs.size = 6) :
    (results Tryd.f21 tmps).run Tryd.prog w = .ok (.tuple #[.agg cs, .int .i64 n]) w := by
  have hp' : tmps[2]?.getD undef = .pointer (some ⟨g, 0, none⟩) := by simpa using hp
  have h3' : tmps[3]?.getD undef = .int .i64 n := by simpa using h3
  simp [results, Tryd.results21, hp', h3', asAddr, loadVar_meta w g cs hg hs]

set_option maxRecDepth 10000 in
set_option maxHeartbeats 2000000 in
theorem checked_dead (w : World) : Calls Tryd.prog 38 #[.agg dead1] w fun e w' => e = .returned (.tuple #[.agg dead1, .int .i64 0]) ∧ Below w.heap.size w w' := by
  have KR := check_dead
  unfold dead1 at KR ⊢
  go_enter Tryd.func38, Tryd.ntmps38
  go_wp2_with (first
    | (go_at_call 23; (with_reducible refine (KR _).mono ?_); rintro e w1 ⟨rfl, hd1⟩; obtain ⟨h1, h2, hb1⟩ := after_call2 _ _ _ _ hd1; obtain ⟨c0, c1, c2, c3, c4, c5, cF⟩ := cells6M h1; obtain ⟨d0, d1, d2, d3, d4, d5, dF⟩ := cells6M h2))
  exact bodyPost_ret (v := .tuple #[.agg #[.int .i64 1, .int .i64 0, .int .i64 0, .int .i64 0, .bool true, .slice none 0 0], .int .i64 0]) (results_chk _ _ _ _ _ rfl rfl (set6_heap _ _ _ _ _ _ h2) rfl) rfl ⟨rfl, set6_below hb1 (Nat.le_succ _) _ _ _ _ _ _⟩

set_option maxRecDepth 10000 in
set_option maxHeartbeats 2000000 in
theorem end_one (w : World) : Calls Tryd.prog 21 #[.agg #[.int .i64 1, .int .i64 0]] w fun e w' => e = .returned (.tuple #[.agg dead1, .int .i64 0]) ∧ Below w.heap.size w w' := by
  have KR := checked_dead
  unfold dead1 at KR ⊢
  go_enter Tryd.func21, Tryd.ntmps21
  go_wp2_with (first
    | (go_at_call 38; (with_reducible refine (KR _).mono ?_); rintro e w1 ⟨rfl, hd1⟩; obtain ⟨h1, h2, hb1⟩ := after_call2 _ _ _ _ hd1; obtain ⟨d0, d1, d2, d3, d4, d5, dF⟩ := cells6M h2))
  exact bodyPost_ret (v := .tuple #[.agg #[.int .i64 1, .int .i64 0, .int .i64 0, .int .i64 0, .bool true, .slice none 0 0], .int .i64 0]) (results_end _ _ _ _ _ rfl rfl (set6_heap _ _ _ _ _ _ h2) rfl) rfl ⟨rfl, set6_below hb1 (Nat.le_succ _) _ _ _ _ _ _⟩
end Go.Proofs.YthofndobmiamjaaDoor
