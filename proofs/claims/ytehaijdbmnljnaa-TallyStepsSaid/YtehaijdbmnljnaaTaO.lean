/-
  tally: the reference's Done and Lost.
-/
import Derived.Test.YtehaijdbmnljnaaTaN
namespace Go.Proofs.Ytehaijdbmnljnaa
open Go.RowKit

theorem ret_boolT {a b : Bool} (h : a = b) : Ending.returned (.bool a) = .returned (.bool b) := by rw [h]
theorem of_is {need x : Int} {N : Nat} {ad : Option Addr} {cap : Nat} {sd : List Int} {w : World} (hI : IntsV w (ad, N, cap) sd) (hN : N ≤ 8) (K : Nat) (hK : (those sd x N).length = K) :
    Calls Try.prog 15 #[.agg #[.slice ad N cap, .int .i64 need], .int .i64 x] w fun e w' => ∃ ad' cap', e = .returned (.slice ad' K cap') ∧ w'.ownsRow w.heap.size 3 1 (.slice ad' K cap') K ((those sd x N).map iv) ∧ Below w.heap.size w w' := by
  subst hK
  exact of_any need x N ad cap sd w hI hN

theorem box_facts {w w1 w4 : World} {A : Value} {need : Int} (hw1 : w1 = w.alloc (.cells #[A, .int .i64 need] 28)) (hd : Below w1.heap.size w1 w4) : w4.cell? ⟨w.heap.size, 0, none⟩ = some A ∧ w4.cell? ⟨w.heap.size, 1, none⟩ = some (.int .i64 need) ∧ Below w.heap.size w w4 := by
  have h0 : w4.heap[w.heap.size]? = some (.cells #[A, .int .i64 need] 28 (0, 0)) := by
    rw [hd.block w.heap.size (by rw [hw1]; simp), hw1]
    exact heap_alloc_new _ _
  refine ⟨cell_of_row _ _ 0 _ _ _ h0, cell_of_row _ _ 1 _ _ _ h0, ?_⟩
  subst hw1
  exact (below_alloc w _).trans (hd.mono (by simp))

set_option maxRecDepth 10000 in
set_option maxHeartbeats 4000000 in
theorem refDone_is {need : Int} {N : Nat} {ad : Option Addr} {cap : Nat} {sd : List Int} {w : World} (hI : IntsV w (ad, N, cap) sd) (hN : N ≤ 8) (v : Bool) (hv : decide (need ≤ cnt sd N 1) = v) :
    Calls Try.prog 17 #[.agg #[.slice ad N cap, .int .i64 need]] w fun e w' => e = .returned (.bool v) ∧ Below w.heap.size w w' := by
  have hl : sd.length = N := hI.length
  have hK1 := those_length sd 1 N (by omega)
  obtain ⟨K1, hk1⟩ : ∃ K, cnt sd N 1 = K := ⟨_, rfl⟩
  rw [hk1] at hK1 hv
  have HK1 := Lib.hid hK1
  have HV := Lib.hid hv
  clear hK1 hk1 hv hl
  obtain ⟨w1, hw1⟩ : ∃ w1, w1 = w.alloc (.cells #[.slice ad N cap, .int .i64 need] 28) := ⟨_, rfl⟩
  obtain ⟨c0, c1, hb1⟩ := box_facts hw1 (Below.refl _ _)
  have hI1 := hI.below hb1
  go_enter Try.func17, Try.ntmps17
  go_wp2
  rw [← hw1]
  have HW1 := Lib.hid hw1
  clear hw1
  go_region_held3 (fun w' => w'.cell? ⟨w.heap.size, 0, none⟩ = some (.slice ad N cap) ∧ w'.cell? ⟨w.heap.size, 1, none⟩ = some (.int .i64 need)) (first | exact ⟨d0, d1⟩ | exact ⟨c0, c1⟩)
    (first
      | (go_at_call 15; (with_reducible refine (of_is (need := need) (x := 1) (sd := sd) ?hI hN K1 HK1.out).mono ?_); (case hI => exact hI1.below ⟨rfl, rfl, rfl, Nat.le_refl _, fun _ _ => rfl⟩); rintro e w4 ⟨ad4, cap4, rfl, _, hd⟩; have hd4 : Below w1.heap.size w1 w4 := ⟨hd.os, hd.tape, hd.output, hd.size, hd.block⟩; obtain ⟨d0, d1, hb4⟩ := box_facts HW1.out hd4))
  all_goals go_wp2
  all_goals go_ret
  all_goals exact ⟨ret_boolT HV.out, hb4⟩

set_option maxRecDepth 10000 in
set_option maxHeartbeats 4000000 in
theorem refLost_is {need : Int} {N : Nat} {ad : Option Addr} {cap : Nat} {sd : List Int} {w : World} (hI : IntsV w (ad, N, cap) sd) (hN : N ≤ 8) (v : Bool) (hv : decide ((cnt sd N 1 : Int) + cnt sd N 0 < need) = v) :
    Calls Try.prog 19 #[.agg #[.slice ad N cap, .int .i64 need]] w fun e w' => e = .returned (.bool v) ∧ Below w.heap.size w w' := by
  have hl : sd.length = N := hI.length
  have hK1 := those_length sd 1 N (by omega)
  have hK0 := those_length sd 0 N (by omega)
  have hc1 := cnt_le sd N 1
  have hc0 := cnt_le sd N 0
  obtain ⟨K1, hk1⟩ : ∃ K, cnt sd N 1 = K := ⟨_, rfl⟩
  obtain ⟨K0, hk0⟩ : ∃ K, cnt sd N 0 = K := ⟨_, rfl⟩
  rw [hk1] at hK1 hv hc1
  rw [hk0] at hK0 hv hc0
  have HK1 := Lib.hid hK1
  have HK0 := Lib.hid hK0
  have HV := Lib.hid hv
  have HWR := Lib.hid (wrap_i64_id ((K1 : Int) + K0) (by omega) (by omega))
  clear hK1 hk1 hK0 hk0 hv hl
  obtain ⟨w1, hw1⟩ : ∃ w1, w1 = w.alloc (.cells #[.slice ad N cap, .int .i64 need] 28) := ⟨_, rfl⟩
  obtain ⟨c0, c1, hb1⟩ := box_facts hw1 (Below.refl _ _)
  have hI1 := hI.below hb1
  go_enter Try.func19, Try.ntmps19
  go_wp2
  rw [← hw1]
  have HW1 := Lib.hid hw1
  clear hw1
  go_region_held3 (fun w' => w'.cell? ⟨w.heap.size, 0, none⟩ = some (.slice ad N cap) ∧ w'.cell? ⟨w.heap.size, 1, none⟩ = some (.int .i64 need)) (first | exact ⟨e0, e1⟩ | exact ⟨d0, d1⟩ | exact ⟨c0, c1⟩)
    (first
      | (go_at_call 15; (with_reducible refine (of_is (need := need) (x := 1) (sd := sd) ?hI hN K1 HK1.out).mono ?_); (case hI => first | exact hI4.below ⟨rfl, rfl, rfl, Nat.le_refl _, fun _ _ => rfl⟩ | exact hI1.below ⟨rfl, rfl, rfl, Nat.le_refl _, fun _ _ => rfl⟩); (first
          | (rintro e w5 ⟨ad5, cap5, rfl, _, hd⟩
             have hd5 : Below w4.heap.size w4 w5 := ⟨hd.os, hd.tape, hd.output, hd.size, hd.block⟩
             obtain ⟨e0, e1, hb5⟩ := box_facts HW1.out (hd4.trans (hd5.mono hd4.size)))
          | (rintro e w4 ⟨ad4, cap4, rfl, _, hd⟩
             have hd4 : Below w1.heap.size w1 w4 := ⟨hd.os, hd.tape, hd.output, hd.size, hd.block⟩
             obtain ⟨d0, d1, hb4⟩ := box_facts HW1.out hd4
             have hI4 := hI1.below hd4)))
      | (go_at_call 15; (with_reducible refine (of_is (need := need) (x := 0) (sd := sd) ?hI hN K0 HK0.out).mono ?_); (case hI => first | exact hI4.below ⟨rfl, rfl, rfl, Nat.le_refl _, fun _ _ => rfl⟩ | exact hI1.below ⟨rfl, rfl, rfl, Nat.le_refl _, fun _ _ => rfl⟩); (first
          | (rintro e w5 ⟨ad5, cap5, rfl, _, hd⟩
             have hd5 : Below w4.heap.size w4 w5 := ⟨hd.os, hd.tape, hd.output, hd.size, hd.block⟩
             obtain ⟨e0, e1, hb5⟩ := box_facts HW1.out (hd4.trans (hd5.mono hd4.size)))
          | (rintro e w4 ⟨ad4, cap4, rfl, _, hd⟩
             have hd4 : Below w1.heap.size w1 w4 := ⟨hd.os, hd.tape, hd.output, hd.size, hd.block⟩
             obtain ⟨d0, d1, hb4⟩ := box_facts HW1.out hd4
             have hI4 := hI1.below hd4))))
  all_goals go_wp2
  all_goals go_ret
  all_goals exact ⟨ret_boolT (by first | exact HV.out | (rw [HWR.out]; exact HV.out)), hb5⟩
end Go.Proofs.Ytehaijdbmnljnaa
