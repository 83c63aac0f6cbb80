/-
  tuple: Tuple's walk.
-/
import Derived.Test.YtfjcbgfgiidogaaDoorMTu1
namespace Go.Proofs.YtfjcbgfgiidogaaDoor
open Go.RowKit

set_option maxRecDepth 10000 in
set_option maxHeartbeats 4000000 in
theorem tuple_j2 (k : Nat) (x : Int) (w : World) (h1 : 1 ≤ k) (hk : k ≤ 32) (hj : cJ k = 2) (hx0 : 0 ≤ x) (hx1 : x ≤ 16777219) (hg : Bnd w) :
    Calls Tryd.prog 87 #[.int .i64 (k : Int), .int .i64 x] w fun e w' => e = .returned (.tuple #[tupV (30801 + 55585 * x) x (cW k : Nat) (cP1 k : Nat), .int .i64 0]) ∧ Below w.heap.size w w' := by
  obtain ⟨f1, f2, f3, f4, f5, f6, f7, f8, f9, f10, f11, f12, f13, f14⟩ := code_facts h1 hk
  have H14 := Lib.hid f14
  clear f14
  go_enter Tryd.func87, Tryd.ntmps87
  go_wp2_with (first | (go_at_call 77; (with_reducible refine (params_any k _ h1 hk).mono ?_); rintro e w1 ⟨rfl, hb1⟩; unfold codeV; rw [hj]; have hg1 := hg.alloc.below hb1; have ht1 := (hb1.block w.heap.size (by simp)).trans (heap_alloc_new _ _)))
  refine spare_alloc _ _ _ ?_
  intro w2 hr2 hb2
  have hg2 := hg1.below hb2
  have cW5 := (cell_of_row w2 w1.heap.size 5 _ _ _ hr2)
  have cP7 := (cell_of_row w2 w1.heap.size 7 _ _ _ hr2)
  simp at cW5 cP7
  obtain ⟨W, hW⟩ : ∃ W : Nat, W = cW k := ⟨_, rfl⟩
  obtain ⟨P1, hP1⟩ : ∃ P1 : Nat, P1 = cP1 k := ⟨_, rfl⟩
  rw [← hW] at f7 f8 f9 cW5 ⊢
  rw [← hP1] at f12 f13 cP7 ⊢
  obtain ⟨y, hy⟩ : ∃ y : Int, y = 30801 + 55585 * x := ⟨_, rfl⟩
  rw [← hy]
  obtain ⟨r0, hr0⟩ : ∃ r, r = rz y 0 % 1048576 := ⟨_, rfl⟩
  obtain ⟨r1, hr1⟩ : ∃ r, r = rz y 1 % ((W : Int) - 1) := ⟨_, rfl⟩
  obtain ⟨r2, hr2'⟩ : ∃ r, r = rz y 2 % (W : Int) := ⟨_, rfl⟩
  obtain ⟨r4, hr4⟩ : ∃ r, r = rz x 4 % ((P1 : Int) - 1) := ⟨_, rfl⟩
  obtain ⟨r5, hr5⟩ : ∃ r, r = rz x 5 % (P1 : Int) := ⟨_, rfl⟩
  obtain ⟨d, hd⟩ : ∃ d, d = degS r0 (W : Int) := ⟨_, rfl⟩
  have K0 := rand_is y 0 1048576 r0 (by omega) (by omega) hr0
  have K1 := rand_is y 1 ((W : Int) - 1) r1 (by omega) (by omega) hr1
  have K2 := rand_is y 2 (W : Int) r2 (by omega) (by omega) hr2'
  obtain ⟨r3, hr3⟩ : ∃ r, r = rz x 3 % 2 := ⟨_, rfl⟩
  have K3 := rand_is x 3 2 r3 (by omega) (by omega) hr3
  have K4 := rand_is x 4 ((P1 : Int) - 1) r4 (by omega) (by omega) hr4
  have K5 := rand_is x 5 (P1 : Int) r5 (by omega) (by omega) hr5
  have KD := degree_is r0 (W : Int) d (by omega) (by omega) hd
  have b1 := rz_range2 y 1 ((W : Int) - 1) (by omega)
  have b3 := rz_range2 x 3 2 (by omega)
  have b4 := rz_range2 x 4 ((P1 : Int) - 1) (by omega)
  rw [← hr1] at b1
  rw [← hr4] at b4
  rw [← hr3] at b3
  obtain ⟨b30, b31⟩ := b3
  obtain ⟨b10, b11⟩ := b1
  obtain ⟨b40, b41⟩ := b4
  have e1 : IntKind.i64.wrap ((W : Int) - 1) = (W : Int) - 1 := IntWalk.i64_in _ (by omega)
  have e2 : IntKind.i64.wrap ((P1 : Int) - 1) = (P1 : Int) - 1 := IntWalk.i64_in _ (by omega)
  have e3 : IntKind.i64.wrap (1 + r1) = 1 + r1 := IntWalk.i64_in _ (by omega)
  have e5 : IntKind.i64.wrap (2 + r3) = 2 + r3 := IntWalk.i64_in _ (by omega)
  have e4 : IntKind.i64.wrap (1 + r4) = 1 + r4 := IntWalk.i64_in _ (by omega)
  have H0 := Lib.hid hr0; have H1 := Lib.hid hr1; have H2 := Lib.hid hr2'; have H3 := Lib.hid hr3; have H4 := Lib.hid hr4; have H5 := Lib.hid hr5; have HD := Lib.hid hd; have HY := Lib.hid hy; have HW := Lib.hid hW; have HP := Lib.hid hP1; have HR := Lib.hid hr2
  clear hr0 hr1 hr2' hr3 hr4 hr5 hd hy hW hP1 hr2
  have hold0 := (hb2.block w.heap.size (Nat.lt_of_lt_of_le (by simp) hb1.size)).trans ht1
  have hlt0 : w.heap.size < w2.heap.size := (Array.getElem?_eq_some_iff.1 hold0).1
  have hold1 : ∀ o, (w2.alloc o).drew.heap[w.heap.size]? = some (.cells tupZs 125 (0, 0)) := fun o => (heap_alloc_old w2 o hlt0).trans hold0
  have hold2 : ∀ o, (w2.alloc o).drew.drew.heap[w.heap.size]? = some (.cells tupZs 125 (0, 0)) := fun o => (heap_alloc_old w2 o hlt0).trans hold0
  have hold3 : ∀ o, (w2.alloc o).drew.drew.drew.heap[w.heap.size]? = some (.cells tupZs 125 (0, 0)) := fun o => (heap_alloc_old w2 o hlt0).trans hold0
  have hbw : Below w.heap.size w w2 := (((Below.refl _ _).alloc (Nat.le_refl _) _).trans (hb1.mono (by simp))).trans (hb2.mono (Nat.le_trans (by simp) hb1.size))
  have hlt1 : w.heap.size ≤ w2.heap.size := Nat.le_of_lt hlt0
  clear hold0 ht1
  go_region_held3 (fun w' => w'.cell? ⟨w1.heap.size, 5, none⟩ = some (.int .i64 (W : Int)) ∧ w'.cell? ⟨w1.heap.size, 7, none⟩ = some (.int .i64 (P1 : Int))) (go_keep)
    (first
    | (go_at_call 111; (with_reducible refine (K0 _).mono ?_); rintro e w' ⟨rfl, rfl⟩)
    | (go_at_call 111; (with_reducible refine (K1 _).mono ?_); rintro e w' ⟨rfl, rfl⟩)
    | (go_at_call 111; (with_reducible refine (K2 _).mono ?_); rintro e w' ⟨rfl, rfl⟩)
    | (go_at_call 111; (with_reducible refine (K4 _).mono ?_); rintro e w' ⟨rfl, rfl⟩)
    | (go_at_call 111; (with_reducible refine (K5 _).mono ?_); rintro e w' ⟨rfl, rfl⟩)
    | (go_at_call 110; (with_reducible refine (KD _ ?hgd).mono ?_); (case hgd => first | exact hg2 | exact hg2.alloc | exact hg2.drew | exact hg2.alloc.drew | exact hg2.drew.alloc); rintro e w' ⟨rfl, rfl⟩))







  all_goals
    by_cases hd4 : d < 4
    · go_wp2
      go_region_with (first | (go_at_call 111; (with_reducible refine (K3 _).mono ?_); rintro e w' ⟨rfl, rfl⟩))
      all_goals (go_wp2_with (first | ((with_reducible show wpList _ _ _ (⟨_, Op.store 125 (.tmp 4) (.tmp 79), _, _, _, _⟩ :: _) _ _); (refine wpList_store_row rfl 125 (.tmp 4) (.tmp 79) rfl w.heap.size #[.int .i64 d, .int .i64 (1 + r1), .int .i64 r2, .int .i64 (2 + r3), .int .i64 (1 + r4), .int .i64 r5] rfl rfl 125 tupZs ?hold (by kernel_rfl) rfl (one6 _ _ _ _ _ _) ?_); (case hold => first | exact hold1 _ | exact hold2 _ | exact hold3 _))))
      all_goals
        refine bodyPost_ret (v := .tuple #[.agg #[.int .i64 d, .int .i64 (1 + r1), .int .i64 r2, .int .i64 (2 + r3), .int .i64 (1 + r4), .int .i64 r5], .int .i64 0]) ?hres rfl ⟨?hval, ?hbel⟩
        case hres => first | exact results_tup _ _ _ _ _ rfl rfl (setRow_heap _ _ _ _ _ _ (hold1 _)) rfl | exact results_tup _ _ _ _ _ rfl rfl (setRow_heap _ _ _ _ _ _ (hold2 _)) rfl
        case hval =>
          rw [← HY.out, ← HW.out, ← HP.out]
          unfold tupV tupD1 tupD
          rw [← H0.out, ← HD.out, ← H1.out, ← H2.out, ← H3.out, ← H4.out, ← H5.out, if_pos hd4]
        case hbel => first | exact below_setRow ((hbw.alloc hlt1 _).drew) (Nat.le_refl _) _ | exact below_setRow ((hbw.alloc hlt1 _).drew.drew) (Nat.le_refl _) _
    · go_wp2_with (first | ((with_reducible show wpList _ _ _ (⟨_, Op.store 125 (.tmp 4) (.tmp 79), _, _, _, _⟩ :: _) _ _); (refine wpList_store_row rfl 125 (.tmp 4) (.tmp 79) rfl w.heap.size #[.int .i64 d, .int .i64 (1 + r1), .int .i64 r2, .int .i64 2, .int .i64 (1 + r4), .int .i64 r5] rfl rfl 125 tupZs ?hold (by kernel_rfl) rfl (one6 _ _ _ _ _ _) ?_); (case hold => first | exact hold1 _ | exact hold2 _ | exact hold3 _)))
      all_goals
        refine bodyPost_ret (v := .tuple #[.agg #[.int .i64 d, .int .i64 (1 + r1), .int .i64 r2, .int .i64 2, .int .i64 (1 + r4), .int .i64 r5], .int .i64 0]) ?hres rfl ⟨?hval, ?hbel⟩
        case hres => first | exact results_tup _ _ _ _ _ rfl rfl (setRow_heap _ _ _ _ _ _ (hold1 _)) rfl | exact results_tup _ _ _ _ _ rfl rfl (setRow_heap _ _ _ _ _ _ (hold2 _)) rfl
        case hval =>
          rw [← HY.out, ← HW.out, ← HP.out]
          unfold tupV tupD1 tupD
          rw [← H0.out, ← HD.out, ← H1.out, ← H2.out, ← H3.out, ← H4.out, ← H5.out, if_neg (by omega)]
        case hbel => first | exact below_setRow ((hbw.alloc hlt1 _).drew) (Nat.le_refl _) _ | exact below_setRow ((hbw.alloc hlt1 _).drew.drew) (Nat.le_refl _) _
end Go.Proofs.YtfjcbgfgiidogaaDoor
