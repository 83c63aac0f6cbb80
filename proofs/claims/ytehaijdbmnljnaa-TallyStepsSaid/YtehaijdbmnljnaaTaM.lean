/-
  tally: the reference's Say, where it counts.
-/
import Derived.Test.YtehaijdbmnljnaaTaL
namespace Go.Proofs.Ytehaijdbmnljnaa
open Go.RowKit

theorem lt_HA {w : World} {b : Nat} {o : Obj} (h : w.heap[b]? = some o) : b < w.heap.size := (Array.getElem?_eq_some_iff.1 h).1
theorem say_after {w w3 w4 : World} {A B : Obj} {v' old : Value} {N i : Nat} {T : TypeId} {xs : List Value} (hs3 : w3.heap.size = w.heap.size + 3) (hb3 : Below w.heap.size w w3) (hA : w3.heap[w.heap.size]? = some A) (hB : w3.heap[w.heap.size + 1]? = some B)
    (hown : w4.ownsRow (w.heap.size + 2) T 1 v' N xs) (hg : w3.grownBy w4 (some (w.heap.size + 2))) (hi : i < N) (hx : xs[i]? = some old) :
    ∃ g cap', v' = .slice (some ⟨g, 0, none⟩) N cap' ∧ w.heap.size + 2 ≤ g ∧ w4.heap[w.heap.size]? = some A ∧ w4.heap[w.heap.size + 1]? = some B ∧ w4.cell? ⟨g, i, none⟩ = some old ∧ (∀ j, w4.frozen? ⟨g, j, none⟩ = false) ∧ Below w.heap.size w w4 ∧ w.heap.size + 3 ≤ w4.heap.size := by
  rcases hown.2 with ⟨_, h9⟩ | ⟨g, cp, cur, hv, hgb, hgg, hnc, hcm, hcs, htk⟩
  · omega
  · subst hv
    refine ⟨g, cp, rfl, hgb, (hg.block _ (by omega) (by simp)).trans hA, (hg.block _ (by omega) (by simp)).trans hB, ?_, fun j => frozen_of_row _ _ _ _ _ hgg, hb3.grown hg hb3.size (fun k hk => by cases hk; omega), by have := hg.size; omega⟩
    rw [← hx]
    exact hown.cellAt i (by omega)

set_option maxRecDepth 10000 in
set_option maxHeartbeats 4000000 in
theorem refSay_turns (need x : Int) (i : Nat) (N : Nat) (ad : Option Addr) (cap : Nat) (sd : List Int) (w : World) (hI : IntsV w (ad, N, cap) sd) (hN : N ≤ 8) (hi : i < N) (hz : sd.getD i 0 = 0) :
    Calls Try.prog 13 #[.agg #[.slice ad N cap, .int .i64 need], .int .i64 i, .int .i64 x] w fun e w' => ∃ ad' cap', e = .returned (.agg #[.slice ad' N cap', .int .i64 need]) ∧ IntsV w' (ad', N, cap') (sd.set i x) ∧ (∀ a, ad' = some a → w.heap.size + 2 ≤ a.block) ∧ Below w.heap.size w w' := by
  obtain ⟨i0, hi0, hz0, hz1, hz2⟩ := info_partsT Try.infoInt
  have hl : sd.length = N := hI.length
  have hnil := hI.nil
  obtain ⟨b3, o3, e3, hc3⟩ := hI.row.2 (by simp; omega)
  simp only at e3
  subst e3
  have d1 := (hc3 i hi).trans (iv_getD (by omega))
  rw [hz] at d1
  clear hc3 hz
  have hlt : b3 < w.heap.size := hI.row.lt (by simp; omega) rfl
  obtain ⟨w2, hw2⟩ : ∃ w2, w2 = (w.alloc (.cells #[.slice (some ⟨b3, o3, none⟩) N cap, .int .i64 need] 28)).alloc (.cells #[.slice none 0 0, .int .i64 0] 28) := ⟨_, rfl⟩
  have hsz : w2.heap.size = w.heap.size + 2 := by rw [hw2]; simp
  have hA : w2.heap[w.heap.size]? = some (.cells #[.slice (some ⟨b3, o3, none⟩) N cap, .int .i64 need] 28 (0, 0)) := by
    rw [hw2, heap_alloc_old _ _ (by simp)]; exact heap_alloc_new _ _
  have hB : w2.heap[w.heap.size + 1]? = some (.cells #[.slice none 0 0, .int .i64 0] 28 (0, 0)) := by rw [hw2]; exact two_alloc _ _ _
  have hb2 : Below w.heap.size w w2 := by rw [hw2]; exact (below_alloc _ _).alloc (by simp) _
  have d2 : w2.cell? ⟨b3, o3 + i, none⟩ = some (.int .i64 0) := (hb2.cell hlt).trans d1
  have k0 : w2.cell? ⟨w.heap.size, 0, none⟩ = some (.slice (some ⟨b3, o3, none⟩) N cap) := cell_of_row _ _ 0 _ _ _ hA
  have k1 : w2.cell? ⟨w.heap.size, 1, none⟩ = some (.int .i64 need) := cell_of_row _ _ 1 _ _ _ hA
  have hr := (hI.below hb2).row.below (below_alloc w2 (.cells #[] 3))
  have hown0 := World.ownsRow_made (base := w2.heap.size) (e := 3) (size := 1) w2 #[] 0 (Nat.le_refl _) (by simp [maxLen]) rfl
  rw [hsz] at hown0
  have HL := Lib.hid hl
  have HA := Lib.hid hA
  have HB := Lib.hid hB
  clear hl hA hB d2 k0 k1
  have hsz3 : (w2.alloc (.cells #[] 3)).heap.size = w.heap.size + 3 := by simp [hsz]
  rw [hw2] at hr hown0 hb2 hsz3 HA HB
  have hb3 := hb2.alloc (by simp; omega : w.heap.size ≤ _) (.cells #[] 3)
  clear hsz hw2 w2
  go_enter Try.func13, Try.ntmps13
  go_wp2_with (first
    | (at_builtin; refine wpList_append_row rfl (.tmp 26) (.tmp 28) 26 rfl (w.heap.size + 2) 3 i0 (.int .i64 0) 8 Try.underlying26 hi0 hz0 hz1 hz2 rfl _ _ _ rfl hown0 (some ⟨b3, o3, none⟩) N cap (sd.map iv) rfl hr (fun h => by cases h) (iv_ones sd) (by simp [maxLen]; omega) (by omega) (by simp) ?_; intro v' w4 hown4 hgrow4 _; refine Hid.out ?_))
  refine Lib.hid ?_
  rw [Nat.zero_add, List.nil_append] at hown4
  have hil : i < sd.length := by rw [HL.out]; exact hi
  obtain ⟨g, cap', rfl, hgb, hA4, hB4, c4, f4, hb4, hs4⟩ := say_after hsz3 hb3 ((heap_alloc_old _ _ (lt_HA HA.out)).trans HA.out) ((heap_alloc_old _ _ (lt_HA HB.out)).trans HB.out) hown4 hgrow4 hi (iv_getD hil)
  clear hgrow4
  have a0 := cell_of_row w4 _ 0 _ _ _ hA4
  have a1 : w4.cell? ⟨w.heap.size, 1, none⟩ = some (.int .i64 need) := cell_of_row w4 _ 1 _ _ _ hA4
  have aF : ∀ j, w4.frozen? ⟨w.heap.size, j, none⟩ = false := (fun j => frozen_of_row w4 _ j _ _ hA4)
  have b0 := cell_of_row w4 _ 0 _ _ _ hB4
  have b1 : w4.cell? ⟨w.heap.size + 1, 1, none⟩ = some (.int .i64 0) := cell_of_row w4 _ 1 _ _ _ hB4
  have bF : ∀ j, w4.frozen? ⟨w.heap.size + 1, j, none⟩ = false := (fun j => frozen_of_row w4 _ j _ _ hB4)
  have n1 : ¬ g = w.heap.size := by omega
  have n2 : ¬ w.heap.size = g := by omega
  have n3 : ¬ g = w.heap.size + 1 := by omega
  have n4 : ¬ w.heap.size + 1 = g := by omega
  go_wp2
  have hst := (hown4.stored i (.int .i64 x)).1
  rw [show (Value.int .i64 x) = iv x from rfl, ← List.map_set] at hst
  have m5 := (heap_setCell_other w4 ⟨g, i, none⟩ (w.heap.size + 1) (iv x) (by simpa using n4)).trans hB4
  have m6 := (heap_setCell_other (w4.setCell ⟨g, i, none⟩ (iv x)) ⟨w.heap.size, 0, none⟩ (w.heap.size + 1) (.slice (some ⟨g, 0, none⟩) N cap') (by simp)).trans m5
  have m8 := heap_setCell_same _ _ 1 _ _ (.int .i64 need) (heap_setCell_same _ _ 0 _ _ (.slice (some ⟨g, 0, none⟩) N cap') m6)
  have hown8 := (hst.kept (grownBy_setCell _ ⟨w.heap.size, 0, none⟩ (.slice (some ⟨g, 0, none⟩) N cap')) (.inr (fun e => ne_own (g := w.heap.size) hst (by omega) e.symm)))
  have hown9 := hown8.kept (grownBy_setCell _ ⟨w.heap.size + 1, 0, none⟩ (.slice (some ⟨g, 0, none⟩) N cap')) (.inr (fun e => ne_own (g := w.heap.size + 1) hown8 (by omega) e.symm))
  have hown10 := hown9.kept (grownBy_setCell _ ⟨w.heap.size + 1, 1, none⟩ (.int .i64 need)) (.inr (fun e => ne_own (g := w.heap.size + 1) hown9 (by omega) e.symm))
  have hbF := (((hb4.setCell (p := ⟨g, i, none⟩) (by simp only; omega) (iv x)).setCell (p := ⟨w.heap.size, 0, none⟩) (Nat.le_refl _) (.slice (some ⟨g, 0, none⟩) N cap')).setCell (p := ⟨w.heap.size + 1, 0, none⟩) (Nat.le_succ _) (.slice (some ⟨g, 0, none⟩) N cap')).setCell (p := ⟨w.heap.size + 1, 1, none⟩) (Nat.le_succ _) (.int .i64 need)
  exact bodyPost_ret (v := .agg #[.slice (some ⟨g, 0, none⟩) N cap', .int .i64 need]) (results_rs _ _ _ _ rfl m8 rfl) rfl ⟨some ⟨g, 0, none⟩, cap', rfl, (intsV_own hown10 (by omega)).1, (fun a ha => by cases ha; exact hgb), hbF⟩
end Go.Proofs.Ytehaijdbmnljnaa
