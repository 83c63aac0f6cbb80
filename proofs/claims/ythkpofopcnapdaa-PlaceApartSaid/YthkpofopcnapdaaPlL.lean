/-
  place: the law's 'alive'.
-/
import Derived.Test.YthkpofopcnapdaaPlK
namespace Go.Proofs.Ythkpofopcnapdaa
open Go.RowKit

theorem intsV_of_cur {w : World} {g : Nat} {cur : Array Value} {T : TypeId} {q : Nat} (l : List Int) (hg : w.heap[g]? = some (.cells cur T (0, 0))) (hl : l.length = q) (hc : ∀ i, i < q → cur[i]? = some (.int .i64 (l.getD i 0))) (hq : q ≤ 140737488355328) : IntsV w (some ⟨g, 0, none⟩, q, q) l := by
  refine ⟨⟨by simp [hl], fun _ => ⟨g, 0, rfl, fun i hi => ?_⟩⟩, hq, Nat.le_refl _, fun h => by cases h⟩
  have hi' : i < q := hi
  rw [cell_of_row _ _ _ _ _ _ hg, Nat.zero_add, hc i hi', iv_getD (by omega)]

set_option maxRecDepth 10000 in
set_option maxHeartbeats 4000000 in
theorem some_any (w : World) :
    Calls Try.prog 17 #[] w fun e w' => e = .returned (cfg 5 4 3 2 4 100) ∧ Below w.heap.size w w' := by
  unfold cfg
  go_enter Try.func17, Try.ntmps17
  go_wp2
  exact bodyPost_ret (v := .agg #[.int .i64 5, .int .i64 4, .int .i64 3, .int .i64 2, .int .i64 4, .int .i64 100]) (by simp [results, Try.results17, go_sem]) rfl ⟨rfl, (Below.refl _ _).alloc (Nat.le_refl _) _⟩

theorem good_some : Good 5 4 3 2 4 100 := by unfold Good; omega
theorem owner_some (w : World) : Calls Try.prog 15 #[cfg 5 4 3 2 4 100, .int .i64 6, .int .i64 21] w fun x w' => x = .returned (.tuple #[.int .i64 1, .int .i64 1, .int .i64 0]) ∧ Below w.heap.size w w' :=
  owner_good 5 4 3 2 4 100 6 21 w good_some ⟨by omega, by omega⟩ ⟨by omega, by omega⟩
theorem esis_some (w : World) : Calls Try.prog 12 #[cfg 5 4 3 2 4 100, .int .i64 1, .int .i64 6, .int .i64 1] w fun x w' => ∃ g, x = .returned (.tuple #[.slice (some ⟨g, 0, none⟩) 4 4, .int .i64 0]) ∧ IntsV w' (some ⟨g, 0, none⟩, 4, 4) [21, 26, 31, 36] ∧ Below w.heap.size w w' :=
  (esis_good 5 4 3 2 4 100 1 6 1 4 w good_some rfl ⟨by omega, by omega⟩ ⟨by omega, by omega⟩ ⟨by omega, by omega⟩ (by decide +kernel)).mono fun x w' ⟨g, hx, _, ⟨cur, hg, _, hc⟩, hb⟩ =>
    ⟨g, hx, intsV_of_cur _ hg rfl (fun i hi => by
      rw [hc i hi]
      match i, hi with
      | 0, _ => rfl
      | 1, _ => rfl
      | 2, _ => rfl
      | 3, _ => rfl) (by omega), hb⟩

theorem ints_lit (w : World) : IntsV (w.alloc (.cells #[.int .i64 21, .int .i64 26, .int .i64 31, .int .i64 36] 3)) (some ⟨w.heap.size, 0, none⟩, 4, 4) [21, 26, 31, 36] :=
  intsV_of_cur _ (heap_alloc_new _ _) rfl (fun i hi => by
      match i, hi with
      | 0, _ => rfl
      | 1, _ => rfl
      | 2, _ => rfl
      | 3, _ => rfl) (by omega)

set_option maxRecDepth 10000 in
set_option maxHeartbeats 4000000 in
theorem alive_any (w : World) :
    Calls Try.prog 7 #[] w fun e w' => e = .returned (.bool true) ∧ Below w.heap.size w w' := by
  have KS := some_any
  have KE := esis_some
  have KO := owner_some
  unfold cfg at KS KE KO
  go_enter Try.func7, Try.ntmps7
  go_wp2_with (first
    | (have _ := hb2; go_at_call 17; (with_reducible refine (KS _).mono ?_); rintro e w4 ⟨rfl, hb4⟩)
    | (go_at_call 17; (with_reducible refine (KS _).mono ?_); rintro e w1 ⟨rfl, hb1⟩)
    | (go_at_call 12; (with_reducible refine (KE _).mono ?_); rintro e w2 ⟨g, rfl, hI, hb2⟩)
    | (go_at_call 15; (with_reducible refine (KO _).mono ?_); rintro e w3 ⟨rfl, hb3⟩)
    | (go_at_call 14; (with_reducible refine (sameInts_any _ _ _ [21, 26, 31, 36] _ _ _ [21, 26, 31, 36] _ ?h1 ?h2).mono ?_); (case h1 => exact ((hI.below hb4).below hb3).alloc); (case h2 => exact ints_lit _); rintro e w5 ⟨rfl, hb5⟩; rw [show decide (([21, 26, 31, 36] : List Int) = [21, 26, 31, 36]) = true from rfl]))
  all_goals go_ret
  all_goals first | exact ⟨rfl, (((hb1.trans (hb2.mono hb1.size)).trans (hb4.mono (Nat.le_trans hb1.size hb2.size))).trans (hb3.mono (Nat.le_trans (Nat.le_trans hb1.size hb2.size) hb4.size))).trans (((below_alloc _ _).trans (hb5.mono (by simp))).mono (Nat.le_trans (Nat.le_trans (Nat.le_trans hb1.size hb2.size) hb4.size) hb3.size))⟩ | trace_state
end Go.Proofs.Ythkpofopcnapdaa
