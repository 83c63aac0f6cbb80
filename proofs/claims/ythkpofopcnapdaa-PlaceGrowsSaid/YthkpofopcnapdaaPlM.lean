/-
  place: a share grows with the block by one at most, and not with those that must answer.
-/
import Derived.Test.YthkpofopcnapdaaPlL
import Derived.Test.YthkpofopcnapdaaLaw
namespace Go.Proofs.Ythkpofopcnapdaa
open Go.RowKit

theorem shr_step {n u r c t s k : Int} (h : Good n u r c t s) : shr n u r k ≤ shr n u r (k + 1) ∧ shr n u r (k + 1) ≤ shr n u r k + 1 := by
  obtain ⟨g0, g1, g2, g3, g4, g5, g6, g7, g8, g9, g10, g11, g12⟩ := (show _ ∧ _ from h)
  unfold shr
  obtain ⟨m, hm⟩ : ∃ m, m = u + r - n := ⟨_, rfl⟩
  rw [← hm]
  have : m = 1 ∨ m = 2 ∨ m = 3 ∨ m = 4 ∨ m = 5 ∨ m = 6 ∨ m = 7 ∨ m = 8 := by omega
  clear hm g6 h
  rcases this with rfl | rfl | rfl | rfl | rfl | rfl | rfl | rfl <;> omega
theorem shr_read {n u r c t s k : Int} (h : Good n u r c t s) (hk : 1 ≤ k) (hr : r < n) : Good n u (r + 1) c t s ∧ shr n u (r + 1) k ≤ shr n u r k := by
  obtain ⟨g0, g1, g2, g3, g4, g5, g6, g7, g8, g9, g10, g11, g12⟩ := (show _ ∧ _ from h)
  refine ⟨by unfold Good; omega, ?_⟩
  unfold shr
  obtain ⟨m, hm⟩ : ∃ m, m = u + r - n := ⟨_, rfl⟩
  rw [show u + (r + 1) - n = m + 1 by omega, ← hm]
  have : m = 1 ∨ m = 2 ∨ m = 3 ∨ m = 4 ∨ m = 5 ∨ m = 6 ∨ m = 7 ∨ m = 8 := by omega
  clear hm g6 h
  rcases this with rfl | rfl | rfl | rfl | rfl | rfl | rfl | rfl <;> omega
theorem shr_small {n u r c t s k : Int} (h : Good n u r c t s) (hk : 1 ≤ k) : shr n u r k ≤ k + 1 := by
  obtain ⟨g0, g1, g2, g3, g4, g5, g6, g7, g8, g9, g10, g11, g12⟩ := (show _ ∧ _ from h)
  unfold shr
  obtain ⟨m, hm⟩ : ∃ m, m = u + r - n := ⟨_, rfl⟩
  rw [← hm]
  have : m = 1 ∨ m = 2 ∨ m = 3 ∨ m = 4 ∨ m = 5 ∨ m = 6 ∨ m = 7 ∨ m = 8 := by omega
  clear hm g6 h
  rcases this with rfl | rfl | rfl | rfl | rfl | rfl | rfl | rfl <;> omega

theorem cells6 {w : World} {b : Nat} {v0 v1 v2 v3 v4 v5 : Value} {T : TypeId} {p : Nat × Nat} (h : w.heap[b]? = some (.cells #[v0, v1, v2, v3, v4, v5] T p)) :
    w.cell? ⟨b, 0, none⟩ = some v0 ∧ w.cell? ⟨b, 1, none⟩ = some v1 ∧ w.cell? ⟨b, 2, none⟩ = some v2 ∧ w.cell? ⟨b, 3, none⟩ = some v3 ∧ w.cell? ⟨b, 4, none⟩ = some v4 ∧ w.cell? ⟨b, 5, none⟩ = some v5 :=
  ⟨cell_of_row _ _ 0 _ _ _ h, cell_of_row _ _ 1 _ _ _ h, cell_of_row _ _ 2 _ _ _ h, cell_of_row _ _ 3 _ _ _ h, cell_of_row _ _ 4 _ _ _ h, cell_of_row _ _ 5 _ _ _ h⟩
theorem beyond (w w1 : World) {b : Nat} {o : Obj} (h : w.heap[b]? = some o) (hb : Below w.heap.size w w1) : w1.heap[b]? = some o := by
  have hlt : b < w.heap.size := (Array.getElem?_eq_some_iff.1 h).1
  exact (hb.block b hlt).trans h
theorem trans_below {n : Nat} {w w1 w2 : World} (h : Below n w w1) (hb : Below w1.heap.size w1 w2) (hn : n ≤ w1.heap.size) : Below n w w2 := h.trans (hb.mono hn)

theorem trans_alloc {n : Nat} {w w1 w2 : World} {o : Obj} (h : Below n w w1) (hb : Below (w1.alloc o).heap.size (w1.alloc o) w2) (hn : n ≤ w1.heap.size) : Below n w w2 :=
  (h.alloc hn o).trans (hb.mono (Nat.le_trans hn (by simp)))

set_option maxRecDepth 10000 in
set_option maxHeartbeats 4000000 in
theorem grows_bad (n u r c t s k e : Int) (w : World) (HC : ∀ w, Calls Try.prog 8 #[cfg n u r c t s, .int .i64 k] w fun x w' => x = .returned (.tuple #[.int .i64 0, .int .i64 e]) ∧ Below w.heap.size w w') (he : e ≠ 0) :
    Calls Try.prog 6 #[cfg n u r c t s, .int .i64 k] w fun x w' => x = .returned (.bool true) ∧ Below w.heap.size w w' := by
  have KA := alive_any
  have he' : (e != 0) = true := by rw [bne_iff_ne]; exact he
  unfold cfg at HC ⊢
  go_enter Try.func6, Try.ntmps6
  go_wp2_with (first
    | (go_at_call 7; (with_reducible refine (KA _).mono ?_); rintro e w1 ⟨rfl, hb1⟩; obtain ⟨hold1, hbw1, hold01, hbw01⟩ := after_call _ _ _ hb1; obtain ⟨c0, c1, c2, c3, c4, c5⟩ := cells6 hold01)
    | (go_at_call 8; (with_reducible refine (HC _).mono ?_); rintro e w2 ⟨rfl, hb2⟩))
  go_ret
  exact ⟨rfl, trans_below hbw01 hb2 hbw01.size⟩

set_option maxRecDepth 10000 in
set_option maxHeartbeats 4000000 in
theorem grows_good (n u r c t s k : Int) (w : World) (h : Good n u r c t s) (k0 : 1 ≤ k) (k1 : k ≤ 32) :
    Calls Try.prog 6 #[cfg n u r c t s, .int .i64 k] w fun x w' => x = .returned (.bool true) ∧ Below w.heap.size w w' := by
  have KA := alive_any
  have H1 := fun w => share_good n u r c t s k w h ⟨k0, k1⟩
  have H2 := fun w (hk : k < 32) => share_good n u r c t s (k + 1) w h ⟨by omega, by omega⟩
  have H3 := fun w (hr : r < n) => share_good n u (r + 1) c t s k w (shr_read h k0 hr).1 ⟨k0, k1⟩
  obtain ⟨s0, s1⟩ := shr_step (k := k) h
  obtain s2 := fun hr => (shr_read h k0 hr).2
  obtain s3 := shr_small h k0
  obtain ⟨s4, s5⟩ := shr_range h k0 k1
  obtain ⟨g0, g1, g2, g3, g4, g5, g6, g7, g8, g9, g10, g11, g12⟩ := (show _ ∧ _ from h)
  clear h
  obtain ⟨q, hq⟩ : ∃ q, q = shr n u r k := ⟨_, rfl⟩
  obtain ⟨q2, hq2⟩ : ∃ q2, q2 = shr n u r (k + 1) := ⟨_, rfl⟩
  obtain ⟨q3, hq3⟩ : ∃ q3, q3 = shr n u (r + 1) k := ⟨_, rfl⟩
  simp only [← hq, ← hq2, ← hq3] at H1 H2 H3 s0 s1 s2 s3 s4 s5
  clear hq hq2 hq3
  unfold cfg at H1 H2 H3 ⊢
  by_cases hk : k < 32
  · have H2' := fun w => H2 w hk
    clear H2
    by_cases hr : r < n
    · have H3' := fun w => H3 w hr
      have s2' := s2 hr
      clear H3 s2
      go_enter Try.func6, Try.ntmps6
      go_wp2_with (first
        | (go_at_call 7; (with_reducible refine (KA _).mono ?_); rintro e w1 ⟨rfl, hb1⟩; obtain ⟨hold1, hbw1, hold01, hbw01⟩ := after_call _ _ _ hb1; obtain ⟨c0, c1, c2, c3, c4, c5⟩ := cells6 hold01)
        | (go_at_call 8; (with_reducible refine (H1 _).mono ?_); rintro e w2 ⟨rfl, hb2⟩; have hold02 := beyond _ _ hold01 hb2; have hbw02 := trans_below hbw01 hb2 hbw01.size; obtain ⟨d0, d1, d2, d3, d4, d5⟩ := cells6 hold02)
        | (go_at_call 8; (with_reducible refine (H2' _).mono ?_); rintro e w3 ⟨rfl, hb3⟩; have hold03 := beyond _ _ hold02 hb3; have hbw03 := trans_below hbw02 hb3 hbw02.size; obtain ⟨e0, e1, e2, e3, e4, e5⟩ := cells6 hold03)
        | (go_at_call 8; (with_reducible refine (H3' _).mono ?_); rintro e w4 ⟨rfl, hb4⟩; have hbw04 := trans_alloc hbw03 hb4 hbw03.size))
      all_goals go_ret
      all_goals exact ⟨(by first | rfl | exact ret_bool (decide_eq_true (by omega))), hbw04⟩
    · clear H3 s2
      go_enter Try.func6, Try.ntmps6
      go_wp2_with (first
        | (go_at_call 7; (with_reducible refine (KA _).mono ?_); rintro e w1 ⟨rfl, hb1⟩; obtain ⟨hold1, hbw1, hold01, hbw01⟩ := after_call _ _ _ hb1; obtain ⟨c0, c1, c2, c3, c4, c5⟩ := cells6 hold01)
        | (go_at_call 8; (with_reducible refine (H1 _).mono ?_); rintro e w2 ⟨rfl, hb2⟩; have hold02 := beyond _ _ hold01 hb2; have hbw02 := trans_below hbw01 hb2 hbw01.size; obtain ⟨d0, d1, d2, d3, d4, d5⟩ := cells6 hold02)
        | (go_at_call 8; (with_reducible refine (H2' _).mono ?_); rintro e w3 ⟨rfl, hb3⟩; have hold03 := beyond _ _ hold02 hb3; have hbw03 := trans_below hbw02 hb3 hbw02.size; obtain ⟨e0, e1, e2, e3, e4, e5⟩ := cells6 hold03))
      all_goals go_ret
      all_goals exact ⟨(by first | rfl | exact ret_bool (decide_eq_true (by omega))), hbw03⟩
  · clear H2
    by_cases hr : r < n
    · have H3' := fun w => H3 w hr
      have s2' := s2 hr
      clear H3 s2
      go_enter Try.func6, Try.ntmps6
      go_wp2_with (first
        | (go_at_call 7; (with_reducible refine (KA _).mono ?_); rintro e w1 ⟨rfl, hb1⟩; obtain ⟨hold1, hbw1, hold01, hbw01⟩ := after_call _ _ _ hb1; obtain ⟨c0, c1, c2, c3, c4, c5⟩ := cells6 hold01)
        | (go_at_call 8; (with_reducible refine (H1 _).mono ?_); rintro e w2 ⟨rfl, hb2⟩; have hold02 := beyond _ _ hold01 hb2; have hbw02 := trans_below hbw01 hb2 hbw01.size; obtain ⟨d0, d1, d2, d3, d4, d5⟩ := cells6 hold02)
        | (go_at_call 8; (with_reducible refine (H3' _).mono ?_); rintro e w3 ⟨rfl, hb3⟩; have hbw03 := trans_alloc hbw02 hb3 hbw02.size))
      all_goals go_ret
      all_goals exact ⟨(by first | rfl | exact ret_bool (decide_eq_true (by omega))), hbw03⟩
    · clear H3 s2
      go_enter Try.func6, Try.ntmps6
      go_wp2_with (first
        | (go_at_call 7; (with_reducible refine (KA _).mono ?_); rintro e w1 ⟨rfl, hb1⟩; obtain ⟨hold1, hbw1, hold01, hbw01⟩ := after_call _ _ _ hb1; obtain ⟨c0, c1, c2, c3, c4, c5⟩ := cells6 hold01)
        | (go_at_call 8; (with_reducible refine (H1 _).mono ?_); rintro e w2 ⟨rfl, hb2⟩; have hold02 := beyond _ _ hold01 hb2; have hbw02 := trans_below hbw01 hb2 hbw01.size; obtain ⟨d0, d1, d2, d3, d4, d5⟩ := cells6 hold02))
      all_goals go_ret
      all_goals exact ⟨(by first | rfl | exact ret_bool (decide_eq_true (by omega))), hbw02⟩

theorem placeGrows_walk (n u r c t s k : Int) (w : World) (_w0 : (Lit.int .i64 n).wf = true) (w1 : (Lit.int .i64 u).wf = true) (w2 : (Lit.int .i64 r).wf = true) (_w3 : (Lit.int .i64 c).wf = true) (_w4 : (Lit.int .i64 t).wf = true) (_w5 : (Lit.int .i64 s).wf = true) (_w6 : (Lit.int .i64 k).wf = true) :
    Calls Try.prog 6 #[.agg #[.int .i64 n, .int .i64 u, .int .i64 r, .int .i64 c, .int .i64 t, .int .i64 s], .int .i64 k] w fun x w' => x = .returned (.bool true) ∧ Below w.heap.size w w' := by
  change Calls _ _ #[cfg n u r c t s, _] _ _
  by_cases h : Good n u r c t s
  · by_cases hk : 1 ≤ k ∧ k ≤ 32
    · exact grows_good n u r c t s k w h hk.1 hk.2
    · exact grows_bad n u r c t s k 30 w (fun w => share_badk n u r c t s k w h (by omega)) (by omega)
  · exact grows_bad n u r c t s k 130 w (fun w => share_badc n u r c t s k w h (wf_i64 w1) (wf_i64 w2)) (by omega)
end Go.Proofs.Ythkpofopcnapdaa
