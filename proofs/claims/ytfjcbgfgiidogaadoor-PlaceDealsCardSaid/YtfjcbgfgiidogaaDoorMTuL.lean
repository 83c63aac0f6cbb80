/-
  tuple: the reference's Tuple, its walk.
-/
import Derived.Test.YtfjcbgfgiidogaaDoorMTu2
import Derived.Test.YtfjcbgfgiidogaaDoorMTu3
namespace Go.Proofs.YtfjcbgfgiidogaaDoor
open Go.RowKit

set_option maxRecDepth 10000 in
set_option maxHeartbeats 40000000 in
theorem refTuple_j2 (k : Nat) (x : Int) (w : World) (h1 : 1 ≤ k) (hk : k ≤ 32) (hj : cJ k = 2) (hx0 : 0 ≤ x) (hx1 : x ≤ 16777219) :
    Calls Tryd.prog 105 #[.int .i64 (k : Int), .int .i64 x] w fun e w' => e = .returned (.tuple #[tupV ((30801 + 55585 * x) % 4294967296) x (cW k : Nat) (cP1 k : Nat), .int .i64 0]) ∧ Below w.heap.size w w' := by
  obtain ⟨f1, f2, f3, f4, f5, f6, f7, f8, f9, f10, f11, f12, f13, f14⟩ := code_facts h1 hk
  have H14 := Lib.hid f14
  clear f14
  go_enter Tryd.func105, Tryd.ntmps105
  go_wp2_with (first | (go_at_call 79; (with_reducible refine (refParams_any k _ h1 hk).mono ?_); rintro e w1 ⟨rfl, hb1⟩; unfold codeV; rw [hj]; obtain ⟨hold, hbw, hold0, hbw0⟩ := after_call _ _ _ hb1))
  refine spare_alloc _ _ _ ?_
  intro w2 hr2 hb2
  have cW5 := (cell_of_row w2 w1.heap.size 5 _ _ _ hr2)
  have cP7 := (cell_of_row w2 w1.heap.size 7 _ _ _ hr2)
  simp at cW5 cP7
  obtain ⟨W, hW⟩ : ∃ W : Nat, W = cW k := ⟨_, rfl⟩
  obtain ⟨P1, hP1⟩ : ∃ P1 : Nat, P1 = cP1 k := ⟨_, rfl⟩
  rw [← hW] at f7 f8 f9 cW5 ⊢
  rw [← hP1] at f12 f13 cP7 ⊢
  obtain ⟨y, hy⟩ : ∃ y : Int, y = (30801 + 55585 * x) % 4294967296 := ⟨_, rfl⟩
  rw [← hy]
  obtain ⟨r0, hr0⟩ : ∃ r, r = rz y 0 % 1048576 := ⟨_, rfl⟩
  obtain ⟨r1, hr1⟩ : ∃ r, r = rz y 1 % ((W : Int) - 1) := ⟨_, rfl⟩
  obtain ⟨r2, hr2'⟩ : ∃ r, r = rz y 2 % (W : Int) := ⟨_, rfl⟩
  obtain ⟨r4, hr4⟩ : ∃ r, r = rz x 4 % ((P1 : Int) - 1) := ⟨_, rfl⟩
  obtain ⟨r5, hr5⟩ : ∃ r, r = rz x 5 % (P1 : Int) := ⟨_, rfl⟩
  obtain ⟨d, hd⟩ : ∃ d, d = degS r0 (W : Int) := ⟨_, rfl⟩
  have K0 := refRand_is y 0 1048576 r0 (by omega) (by omega) hr0
  have K1 := refRand_is y 1 ((W : Int) - 1) r1 (by omega) (by omega) hr1
  have K2 := refRand_is y 2 (W : Int) r2 (by omega) (by omega) hr2'
  obtain ⟨r3, hr3⟩ : ∃ r, r = rz x 3 % 2 := ⟨_, rfl⟩
  have K3 := refRand_is x 3 2 r3 (by omega) (by omega) hr3
  have K4 := refRand_is x 4 ((P1 : Int) - 1) r4 (by omega) (by omega) hr4
  have K5 := refRand_is x 5 (P1 : Int) r5 (by omega) (by omega) hr5
  have KD := refDegree_is r0 (W : Int) d (by omega) (by omega) hd
  have b1 := rz_range2 y 1 ((W : Int) - 1) (by omega)
  have b3 := rz_range2 x 3 2 (by omega)
  have b4 := rz_range2 x 4 ((P1 : Int) - 1) (by omega)
  rw [← hr1] at b1
  rw [← hr4] at b4
  rw [← hr3] at b3
  obtain ⟨b30, b31⟩ := b3
  obtain ⟨b10, b11⟩ := b1
  obtain ⟨b40, b41⟩ := b4
  have e1 : IntKind.i64.wrap ((W : Int) - 1) = (W : Int) - 1 := IntWalk.i64_in _ (by omega)
  have e2 : IntKind.i64.wrap ((P1 : Int) - 1) = (P1 : Int) - 1 := IntWalk.i64_in _ (by omega)
  have e3 : IntKind.i64.wrap (1 + r1) = 1 + r1 := IntWalk.i64_in _ (by omega)
  have e5 : IntKind.i64.wrap (2 + r3) = 2 + r3 := IntWalk.i64_in _ (by omega)
  have e4 : IntKind.i64.wrap (1 + r4) = 1 + r4 := IntWalk.i64_in _ (by omega)
  have H0 := Lib.hid hr0; have H1 := Lib.hid hr1; have H2 := Lib.hid hr2'; have H3 := Lib.hid hr3; have H4 := Lib.hid hr4; have H5 := Lib.hid hr5; have HD := Lib.hid hd; have HY := Lib.hid hy; have HW := Lib.hid hW; have HP := Lib.hid hP1; have HR := Lib.hid hr2
  clear hr0 hr1 hr2' hr3 hr4 hr5 hd hy hW hP1 hr2
  have hq : w1.heap.size < w2.heap.size := (Array.getElem?_eq_some_iff.1 HR.out).1
  have hne : ¬ (w1.heap.size = w2.heap.size) := Nat.ne_of_lt hq
  have hne' : ¬ (w2.heap.size = w1.heap.size) := Ne.symm hne
  have hold2 : w2.heap[w.heap.size]? = some (.cells tupZs 125 (0, 0)) := (hb2.block w.heap.size (Array.getElem?_eq_some_iff.1 hold0).1).trans hold0
  have hlt0 : w.heap.size < w2.heap.size := (Array.getElem?_eq_some_iff.1 hold2).1
  have hbw2 : Below w.heap.size w w2 := hbw0.trans (hb2.mono hbw0.size)
  clear hold hbw hold0 hb1 hbw0 hb2
  go_region_held3 (fun w' => w'.cell? ⟨w1.heap.size, 5, none⟩ = some (.int .i64 (W : Int)) ∧ w'.cell? ⟨w1.heap.size, 7, none⟩ = some (.int .i64 (P1 : Int))) (go_keep)
    (first
    | (go_at_call 125; (with_reducible refine (K0 _).mono ?_); rintro e w' ⟨rfl, rfl⟩)
    | (go_at_call 125; (with_reducible refine (K1 _).mono ?_); rintro e w' ⟨rfl, rfl⟩)
    | (go_at_call 125; (with_reducible refine (K2 _).mono ?_); rintro e w' ⟨rfl, rfl⟩)
    | (go_at_call 125; (with_reducible refine (K4 _).mono ?_); rintro e w' ⟨rfl, rfl⟩)
    | (go_at_call 125; (with_reducible refine (K5 _).mono ?_); rintro e w' ⟨rfl, rfl⟩)
    | (go_at_call 124; (with_reducible refine (KD _).mono ?_); rintro e w4 ⟨rfl, hb4⟩; (first
        | (have hb5 : Below (w2.alloc (.cells tupZs 125 (0, 0))).heap.size (w2.alloc (.cells tupZs 125 (0, 0))) w4 := ⟨hb4.os, hb4.tape, hb4.output, hb4.size, hb4.block⟩
           obtain ⟨hold5, hbw5, hz, hb6⟩ := after_call _ _ _ hb5
           have z0 : w4.cell? ⟨w2.heap.size, 0, none⟩ = some (.int .i64 0) := cell_of_row _ _ 0 _ _ _ hz
           have z1 : w4.cell? ⟨w2.heap.size, 1, none⟩ = some (.int .i64 0) := cell_of_row _ _ 1 _ _ _ hz
           have z2 : w4.cell? ⟨w2.heap.size, 2, none⟩ = some (.int .i64 0) := cell_of_row _ _ 2 _ _ _ hz
           have z3 : w4.cell? ⟨w2.heap.size, 3, none⟩ = some (.int .i64 0) := cell_of_row _ _ 3 _ _ _ hz
           have z4 : w4.cell? ⟨w2.heap.size, 4, none⟩ = some (.int .i64 0) := cell_of_row _ _ 4 _ _ _ hz
           have z5 : w4.cell? ⟨w2.heap.size, 5, none⟩ = some (.int .i64 0) := cell_of_row _ _ 5 _ _ _ hz
           have zf : ∀ i, w4.frozen? ⟨w2.heap.size, i, none⟩ = false := fun i => frozen_of_row _ _ _ _ _ hz
           have k5 := (hb6.cell (p := ⟨w1.heap.size, 5, none⟩) hq).trans cW5
           have k7 := (hb6.cell (p := ⟨w1.heap.size, 7, none⟩) hq).trans cP7
           clear hb4 hb5 hold5 hbw5)
        | (have hb6 : Below w2.heap.size w2 w4 := ⟨hb4.os, hb4.tape, hb4.output, hb4.size, hb4.block⟩
           have k5 := (hb6.cell (p := ⟨w1.heap.size, 5, none⟩) hq).trans cW5
           have k7 := (hb6.cell (p := ⟨w1.heap.size, 7, none⟩) hq).trans cP7
           clear hb4))))
  all_goals (first
    | (have hzz := hz
       refine gen_world _ _ w2.heap.size w.heap.size w #[.int .i64 d, .int .i64 (1 + r1), .int .i64 r2, .int .i64 2, .int .i64 (1 + r4), .int .i64 r5] tupZs ?h1 ?h2 ?h3 ?h
       case h1 => exact (heap_setCell_same _ w2.heap.size 5 _ _ _ (heap_setCell_same _ w2.heap.size 4 _ _ _ (heap_setCell_same _ w2.heap.size 3 _ _ _ (heap_setCell_same _ w2.heap.size 2 _ _ _ (heap_setCell_same _ w2.heap.size 1 _ _ _ (heap_setCell_same _ w2.heap.size 0 _ _ _ hz))))))
       case h2 => exact (((((((hb6.setCell (p := ⟨w2.heap.size, 0, none⟩) (Nat.le_refl _) _).setCell (p := ⟨w2.heap.size, 1, none⟩) (Nat.le_refl _) _).setCell (p := ⟨w2.heap.size, 2, none⟩) (Nat.le_refl _) _).setCell (p := ⟨w2.heap.size, 3, none⟩) (Nat.le_refl _) _).setCell (p := ⟨w2.heap.size, 4, none⟩) (Nat.le_refl _) _).setCell (p := ⟨w2.heap.size, 5, none⟩) (Nat.le_refl _) _).block _ hlt0).trans hold2
       case h3 => exact hbw2.trans (((((((hb6.setCell (p := ⟨w2.heap.size, 0, none⟩) (Nat.le_refl _) _).setCell (p := ⟨w2.heap.size, 1, none⟩) (Nat.le_refl _) _).setCell (p := ⟨w2.heap.size, 2, none⟩) (Nat.le_refl _) _).setCell (p := ⟨w2.heap.size, 3, none⟩) (Nat.le_refl _) _).setCell (p := ⟨w2.heap.size, 4, none⟩) (Nat.le_refl _) _).setCell (p := ⟨w2.heap.size, 5, none⟩) (Nat.le_refl _) _).mono (Nat.le_of_lt hlt0))
       case h =>
         intro W5 hW5 hO5 hB5
         have hneb : w.heap.size ≠ w2.heap.size := Nat.ne_of_lt hlt0
         have hleb : w.heap.size ≤ w2.heap.size := Nat.le_of_lt hlt0
         clear hb6 k5 k7 z0 z1 z2 z3 z4 z5 zf hz
         have ee : W5.cell? ⟨w2.heap.size, 0, none⟩ = some (.int .i64 d) := cell_of_row _ _ 0 _ _ _ hW5
         have ef : W5.cell? ⟨w2.heap.size, 1, none⟩ = some (.int .i64 (1 + r1)) := cell_of_row _ _ 1 _ _ _ hW5
         have eg : W5.cell? ⟨w2.heap.size, 2, none⟩ = some (.int .i64 r2) := cell_of_row _ _ 2 _ _ _ hW5
         have eh : W5.cell? ⟨w2.heap.size, 3, none⟩ = some (.int .i64 2) := cell_of_row _ _ 3 _ _ _ hW5
         have ei : W5.cell? ⟨w2.heap.size, 4, none⟩ = some (.int .i64 (1 + r4)) := cell_of_row _ _ 4 _ _ _ hW5
         have ej : W5.cell? ⟨w2.heap.size, 5, none⟩ = some (.int .i64 r5) := cell_of_row _ _ 5 _ _ _ hW5
         have ef' : W5.frozen? ⟨w2.heap.size, 3, none⟩ = false := frozen_of_row _ _ _ _ _ hW5
         by_cases hd4 : d < 4
         · have hO6 : ∀ v, (W5.setCell ⟨w2.heap.size, 3, none⟩ v).heap[w.heap.size]? = some (.cells tupZs 125 (0, 0)) := fun v => (Below.heap_setCell W5 _ v w.heap.size hneb).trans hO5
           have hB6 : ∀ v, Below w.heap.size w (W5.setCell ⟨w2.heap.size, 3, none⟩ v) := fun v => hB5.setCell hleb v
           go_wp2_with (first | (go_at_call 125; (with_reducible refine (K3 _).mono ?_); rintro e w' ⟨rfl, rfl⟩) | ((with_reducible show wpList _ _ _ (⟨_, Op.store 125 (.tmp 4) _, _, _, _, _⟩ :: _) _ _); (refine wpList_store_row rfl 125 (.tmp 4) _ rfl w.heap.size #[.int .i64 d, .int .i64 (1 + r1), .int .i64 r2, .int .i64 (2 + r3), .int .i64 (1 + r4), .int .i64 r5] rfl rfl 125 tupZs ?hold (by kernel_rfl) rfl (one6 _ _ _ _ _ _) ?_); (case hold => first | exact hO6 _)))
           refine bodyPost_ret (v := .tuple #[.agg #[.int .i64 d, .int .i64 (1 + r1), .int .i64 r2, .int .i64 (2 + r3), .int .i64 (1 + r4), .int .i64 r5], .int .i64 0]) (results_rtup _ _ _ _ _ rfl rfl (setRow_heap _ _ _ _ _ _ (hO6 _)) rfl) rfl ⟨?hval, below_setRow (hB6 _) (Nat.le_refl _) _⟩
           case hval =>
             rw [← HY.out, ← HW.out, ← HP.out]
             unfold tupV tupD1 tupD
             rw [← H0.out, ← HD.out, ← H1.out, ← H2.out, ← H3.out, ← H4.out, ← H5.out, if_pos hd4]
         · go_wp2_with (first | ((with_reducible show wpList _ _ _ (⟨_, Op.store 125 (.tmp 4) _, _, _, _, _⟩ :: _) _ _); (refine wpList_store_row rfl 125 (.tmp 4) _ rfl w.heap.size #[.int .i64 d, .int .i64 (1 + r1), .int .i64 r2, .int .i64 2, .int .i64 (1 + r4), .int .i64 r5] rfl rfl 125 tupZs ?hold (by kernel_rfl) rfl (one6 _ _ _ _ _ _) ?_); (case hold => exact hO5)))
           refine bodyPost_ret (v := .tuple #[.agg #[.int .i64 d, .int .i64 (1 + r1), .int .i64 r2, .int .i64 2, .int .i64 (1 + r4), .int .i64 r5], .int .i64 0]) (results_rtup _ _ _ _ _ rfl rfl (setRow_heap _ _ _ _ _ _ hO5) rfl) rfl ⟨?hval, below_setRow hB5 (Nat.le_refl _) _⟩
           case hval =>
             rw [← HY.out, ← HW.out, ← HP.out]
             unfold tupV tupD1 tupD
             rw [← H0.out, ← HD.out, ← H1.out, ← H2.out, ← H3.out, ← H4.out, ← H5.out, if_neg (by omega)])
    | (refine gen_world _ _ w4.heap.size w.heap.size w #[.int .i64 d, .int .i64 (1 + r1), .int .i64 r2, .int .i64 2, .int .i64 (1 + r4), .int .i64 r5] tupZs ?h1 ?h2 ?h3 ?h
       case h1 => exact heap_alloc_new _ _
       case h2 => exact (heap_alloc_old w4 _ (Nat.lt_of_lt_of_le hlt0 hb6.size)).trans ((hb6.block _ hlt0).trans hold2)
       case h3 => exact (hbw2.trans (hb6.mono (Nat.le_of_lt hlt0))).alloc (Nat.le_of_lt (Nat.lt_of_lt_of_le hlt0 hb6.size)) _
       case h =>
         intro W5 hW5 hO5 hB5
         have hneb : w.heap.size ≠ w4.heap.size := Nat.ne_of_lt (Nat.lt_of_lt_of_le hlt0 hb6.size)
         have hleb : w.heap.size ≤ w4.heap.size := Nat.le_of_lt (Nat.lt_of_lt_of_le hlt0 hb6.size)
         clear hb6 k5 k7
         have ee : W5.cell? ⟨w4.heap.size, 0, none⟩ = some (.int .i64 d) := cell_of_row _ _ 0 _ _ _ hW5
         have ef : W5.cell? ⟨w4.heap.size, 1, none⟩ = some (.int .i64 (1 + r1)) := cell_of_row _ _ 1 _ _ _ hW5
         have eg : W5.cell? ⟨w4.heap.size, 2, none⟩ = some (.int .i64 r2) := cell_of_row _ _ 2 _ _ _ hW5
         have eh : W5.cell? ⟨w4.heap.size, 3, none⟩ = some (.int .i64 2) := cell_of_row _ _ 3 _ _ _ hW5
         have ei : W5.cell? ⟨w4.heap.size, 4, none⟩ = some (.int .i64 (1 + r4)) := cell_of_row _ _ 4 _ _ _ hW5
         have ej : W5.cell? ⟨w4.heap.size, 5, none⟩ = some (.int .i64 r5) := cell_of_row _ _ 5 _ _ _ hW5
         have ef' : W5.frozen? ⟨w4.heap.size, 3, none⟩ = false := frozen_of_row _ _ _ _ _ hW5
         by_cases hd4 : d < 4
         · have hO6 : ∀ v, (W5.setCell ⟨w4.heap.size, 3, none⟩ v).heap[w.heap.size]? = some (.cells tupZs 125 (0, 0)) := fun v => (Below.heap_setCell W5 _ v w.heap.size hneb).trans hO5
           have hB6 : ∀ v, Below w.heap.size w (W5.setCell ⟨w4.heap.size, 3, none⟩ v) := fun v => hB5.setCell hleb v
           go_wp2_with (first | (go_at_call 125; (with_reducible refine (K3 _).mono ?_); rintro e w' ⟨rfl, rfl⟩) | ((with_reducible show wpList _ _ _ (⟨_, Op.store 125 (.tmp 4) _, _, _, _, _⟩ :: _) _ _); (refine wpList_store_row rfl 125 (.tmp 4) _ rfl w.heap.size #[.int .i64 d, .int .i64 (1 + r1), .int .i64 r2, .int .i64 (2 + r3), .int .i64 (1 + r4), .int .i64 r5] rfl rfl 125 tupZs ?hold (by kernel_rfl) rfl (one6 _ _ _ _ _ _) ?_); (case hold => first | exact hO6 _)))
           refine bodyPost_ret (v := .tuple #[.agg #[.int .i64 d, .int .i64 (1 + r1), .int .i64 r2, .int .i64 (2 + r3), .int .i64 (1 + r4), .int .i64 r5], .int .i64 0]) (results_rtup _ _ _ _ _ rfl rfl (setRow_heap _ _ _ _ _ _ (hO6 _)) rfl) rfl ⟨?hval, below_setRow (hB6 _) (Nat.le_refl _) _⟩
           case hval =>
             rw [← HY.out, ← HW.out, ← HP.out]
             unfold tupV tupD1 tupD
             rw [← H0.out, ← HD.out, ← H1.out, ← H2.out, ← H3.out, ← H4.out, ← H5.out, if_pos hd4]
         · go_wp2_with (first | ((with_reducible show wpList _ _ _ (⟨_, Op.store 125 (.tmp 4) _, _, _, _, _⟩ :: _) _ _); (refine wpList_store_row rfl 125 (.tmp 4) _ rfl w.heap.size #[.int .i64 d, .int .i64 (1 + r1), .int .i64 r2, .int .i64 2, .int .i64 (1 + r4), .int .i64 r5] rfl rfl 125 tupZs ?hold (by kernel_rfl) rfl (one6 _ _ _ _ _ _) ?_); (case hold => exact hO5)))
           refine bodyPost_ret (v := .tuple #[.agg #[.int .i64 d, .int .i64 (1 + r1), .int .i64 r2, .int .i64 2, .int .i64 (1 + r4), .int .i64 r5], .int .i64 0]) (results_rtup _ _ _ _ _ rfl rfl (setRow_heap _ _ _ _ _ _ hO5) rfl) rfl ⟨?hval, below_setRow hB5 (Nat.le_refl _) _⟩
           case hval =>
             rw [← HY.out, ← HW.out, ← HP.out]
             unfold tupV tupD1 tupD
             rw [← H0.out, ← HD.out, ← H1.out, ← H2.out, ← H3.out, ← H4.out, ← H5.out, if_neg (by omega)]))
end Go.Proofs.YtfjcbgfgiidogaaDoor
