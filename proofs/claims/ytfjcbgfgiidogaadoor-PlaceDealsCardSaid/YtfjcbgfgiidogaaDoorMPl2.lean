/-
  Pl2: PlG PlI PlJ PlK PlL
-/
import Derived.Test.YtfjcbgfgiidogaaDoorMBase
import Derived.Test.YtfjcbgfgiidogaaDoorMPl1
namespace Go.Proofs.YtfjcbgfgiidogaaDoor
open Go.RowKit

set_option maxRecDepth 10000 in
set_option maxHeartbeats 4000000 in
theorem owner_badc (n u r c t s k e : Int) (w : World) (h : ¬ Good n u r c t s) (hu : -9223372036854775808 ≤ u ∧ u ≤ 9223372036854775807) (hr : -9223372036854775808 ≤ r ∧ r ≤ 9223372036854775807) :
    Calls Tryd.prog 48 #[cfg n u r c t s, .int .i64 k, .int .i64 e] w fun x w' => x = .returned (.tuple #[.int .i64 0, .int .i64 0, .int .i64 130]) ∧ Below w.heap.size w w' := by
  have HC := fun w => share_badc n u r c t s k w h hu hr
  unfold cfg at HC ⊢
  go_enter Tryd.func48, Tryd.ntmps48
  go_wp2_with (first
    | (go_at_call 50; (with_reducible refine (HC _).mono ?_); rintro e w1 ⟨rfl, hb1⟩; obtain ⟨hold, hbw, hold0, hbw0⟩ := after_callP _ _ _ hb1; have c0 : w1.cell? ⟨w.heap.size, 0, none⟩ = some (.int .i64 n) := cell_of_row _ _ 0 _ _ _ hold0))
  go_ret3
  exact ⟨rfl, hbw0⟩

set_option maxRecDepth 10000 in
set_option maxHeartbeats 4000000 in
theorem owner_badk (n u r c t s k e : Int) (w : World) (h : Good n u r c t s) (hk : k < 1 ∨ 32 < k) :
    Calls Tryd.prog 48 #[cfg n u r c t s, .int .i64 k, .int .i64 e] w fun x w' => x = .returned (.tuple #[.int .i64 0, .int .i64 0, .int .i64 30]) ∧ Below w.heap.size w w' := by
  have HC := fun w => share_badk n u r c t s k w h hk
  unfold cfg at HC ⊢
  go_enter Tryd.func48, Tryd.ntmps48
  go_wp2_with (first
    | (go_at_call 50; (with_reducible refine (HC _).mono ?_); rintro e w1 ⟨rfl, hb1⟩; obtain ⟨hold, hbw, hold0, hbw0⟩ := after_callP _ _ _ hb1; have c0 : w1.cell? ⟨w.heap.size, 0, none⟩ = some (.int .i64 n) := cell_of_row _ _ 0 _ _ _ hold0))
  go_ret3
  exact ⟨rfl, hbw0⟩

set_option maxRecDepth 10000 in
set_option maxHeartbeats 4000000 in
theorem owner_bade (n u r c t s k e : Int) (w : World) (h : Good n u r c t s) (hk : 1 ≤ k ∧ k ≤ 32) (he : e < 0 ∨ 16777215 < e) :
    Calls Tryd.prog 48 #[cfg n u r c t s, .int .i64 k, .int .i64 e] w fun x w' => x = .returned (.tuple #[.int .i64 0, .int .i64 0, .int .i64 40]) ∧ Below w.heap.size w w' := by
  have HC := fun w => share_good n u r c t s k w h hk
  unfold cfg at HC ⊢
  go_enter Tryd.func48, Tryd.ntmps48
  go_wp2_with (first
    | (go_at_call 50; (with_reducible refine (HC _).mono ?_); rintro e w1 ⟨rfl, hb1⟩; obtain ⟨hold, hbw, hold0, hbw0⟩ := after_callP _ _ _ hb1; have c0 : w1.cell? ⟨w.heap.size, 0, none⟩ = some (.int .i64 n) := cell_of_row _ _ 0 _ _ _ hold0)
    | (go_at_call 75; (with_reducible refine (within_no _ _ _ _ ?hy).mono ?_); (case hy => omega); rintro e w' ⟨rfl, rfl⟩))
  go_ret3
  exact ⟨rfl, hbw0⟩

end Go.Proofs.YtfjcbgfgiidogaaDoor
namespace Go.Proofs.YtfjcbgfgiidogaaDoor
open Go.RowKit

set_option maxRecDepth 10000 in
set_option maxHeartbeats 4000000 in
theorem esis_badc (n u r c t s node k rd : Int) (w : World) (h : ¬ Good n u r c t s) (hu : -9223372036854775808 ≤ u ∧ u ≤ 9223372036854775807) (hr : -9223372036854775808 ≤ r ∧ r ≤ 9223372036854775807) :
    Calls Tryd.prog 46 #[cfg n u r c t s, .int .i64 node, .int .i64 k, .int .i64 rd] w fun x w' => x = .returned (.tuple #[.slice none 0 0, .int .i64 130]) ∧ Below w.heap.size w w' := by
  have HC := fun w => share_badc n u r c t s k w h hu hr
  unfold cfg at HC ⊢
  go_enter Tryd.func46, Tryd.ntmps46
  go_wp2_with (first
    | (go_at_call 50; (with_reducible refine (HC _).mono ?_); rintro e w1 ⟨rfl, hb1⟩; obtain ⟨hold, hbw, hold0, hbw0⟩ := after_callP _ _ _ hb1; have c0 : w1.cell? ⟨w.heap.size, 0, none⟩ = some (.int .i64 n) := cell_of_row _ _ 0 _ _ _ hold0)
    | (go_at_call 75; (with_reducible refine (within_yes _ _ _ _ ?hy).mono ?_); (case hy => exact ⟨by omega, by omega⟩); rintro e w' ⟨rfl, rfl⟩)
    | (go_at_call 75; (with_reducible refine (within_no _ _ _ _ ?hy).mono ?_); (case hy => omega); rintro e w' ⟨rfl, rfl⟩))
  go_ret2
  exact ⟨rfl, hbw0⟩

set_option maxRecDepth 10000 in
set_option maxHeartbeats 4000000 in
theorem esis_badk (n u r c t s node k rd : Int) (w : World) (h : Good n u r c t s) (hk : k < 1 ∨ 32 < k) :
    Calls Tryd.prog 46 #[cfg n u r c t s, .int .i64 node, .int .i64 k, .int .i64 rd] w fun x w' => x = .returned (.tuple #[.slice none 0 0, .int .i64 30]) ∧ Below w.heap.size w w' := by
  have HC := fun w => share_badk n u r c t s k w h hk
  unfold cfg at HC ⊢
  go_enter Tryd.func46, Tryd.ntmps46
  go_wp2_with (first
    | (go_at_call 50; (with_reducible refine (HC _).mono ?_); rintro e w1 ⟨rfl, hb1⟩; obtain ⟨hold, hbw, hold0, hbw0⟩ := after_callP _ _ _ hb1; have c0 : w1.cell? ⟨w.heap.size, 0, none⟩ = some (.int .i64 n) := cell_of_row _ _ 0 _ _ _ hold0)
    | (go_at_call 75; (with_reducible refine (within_yes _ _ _ _ ?hy).mono ?_); (case hy => exact ⟨by omega, by omega⟩); rintro e w' ⟨rfl, rfl⟩)
    | (go_at_call 75; (with_reducible refine (within_no _ _ _ _ ?hy).mono ?_); (case hy => omega); rintro e w' ⟨rfl, rfl⟩))
  go_ret2
  exact ⟨rfl, hbw0⟩

set_option maxRecDepth 10000 in
set_option maxHeartbeats 4000000 in
theorem esis_badn (n u r c t s node k rd : Int) (w : World) (h : Good n u r c t s) (hk : 1 ≤ k ∧ k ≤ 32) (hn : node < 0 ∨ n ≤ node) :
    Calls Tryd.prog 46 #[cfg n u r c t s, .int .i64 node, .int .i64 k, .int .i64 rd] w fun x w' => x = .returned (.tuple #[.slice none 0 0, .int .i64 120]) ∧ Below w.heap.size w w' := by
  have HC := fun w => share_good n u r c t s k w h hk
  obtain ⟨g0, g1, g2, g3, g4, g5, g6, g7, g8, g9, g10, g11, g12⟩ := (show _ ∧ _ from h)
  clear h
  unfold cfg at HC ⊢
  go_enter Tryd.func46, Tryd.ntmps46
  go_wp2_with (first
    | (go_at_call 50; (with_reducible refine (HC _).mono ?_); rintro e w1 ⟨rfl, hb1⟩; obtain ⟨hold, hbw, hold0, hbw0⟩ := after_callP _ _ _ hb1; have c0 : w1.cell? ⟨w.heap.size, 0, none⟩ = some (.int .i64 n) := cell_of_row _ _ 0 _ _ _ hold0)
    | (go_at_call 75; (with_reducible refine (within_yes _ _ _ _ ?hy).mono ?_); (case hy => exact ⟨by omega, by omega⟩); rintro e w' ⟨rfl, rfl⟩)
    | (go_at_call 75; (with_reducible refine (within_no _ _ _ _ ?hy).mono ?_); (case hy => omega); rintro e w' ⟨rfl, rfl⟩))
  go_ret2
  exact ⟨rfl, hbw0⟩

set_option maxRecDepth 10000 in
set_option maxHeartbeats 4000000 in
theorem esis_late (n u r c t s node k rd : Int) (w : World) (h : Good n u r c t s) (hk : 1 ≤ k ∧ k ≤ 32) (hn : 0 ≤ node ∧ node < n) (hr : rd < 0 ∨ 100000 < rd) :
    Calls Tryd.prog 46 #[cfg n u r c t s, .int .i64 node, .int .i64 k, .int .i64 rd] w fun x w' => x = .returned (.tuple #[.slice none 0 0, .int .i64 40]) ∧ Below w.heap.size w w' := by
  have HC := fun w => share_good n u r c t s k w h hk
  obtain ⟨g0, g1, g2, g3, g4, g5, g6, g7, g8, g9, g10, g11, g12⟩ := (show _ ∧ _ from h)
  clear h
  obtain ⟨n0, n1⟩ := hn
  unfold cfg at HC ⊢
  go_enter Tryd.func46, Tryd.ntmps46
  go_wp2_with (first
    | (go_at_call 50; (with_reducible refine (HC _).mono ?_); rintro e w1 ⟨rfl, hb1⟩; obtain ⟨hold, hbw, hold0, hbw0⟩ := after_callP _ _ _ hb1; have c0 : w1.cell? ⟨w.heap.size, 0, none⟩ = some (.int .i64 n) := cell_of_row _ _ 0 _ _ _ hold0)
    | (go_at_call 75; (with_reducible refine (within_yes _ _ _ _ ?hy).mono ?_); (case hy => exact ⟨by omega, by omega⟩); rintro e w' ⟨rfl, rfl⟩)
    | (go_at_call 75; (with_reducible refine (within_no _ _ _ _ ?hy).mono ?_); (case hy => omega); rintro e w' ⟨rfl, rfl⟩))
  go_ret2
  exact ⟨rfl, hbw0⟩

end Go.Proofs.YtfjcbgfgiidogaaDoor
namespace Go.Proofs.YtfjcbgfgiidogaaDoor
open Go.RowKit

theorem mul_range {a b A B : Int} (ha : 0 ≤ a) (hA : a ≤ A) (hb : 0 ≤ b) (hB : b ≤ B) : 0 ≤ a * b ∧ a * b ≤ A * B :=
  ⟨Int.mul_nonneg ha hb, Int.mul_le_mul hA hB hb (by omega)⟩

set_option maxRecDepth 10000 in
set_option maxHeartbeats 4000000 in
theorem esis_far (n u r c t s node k rd : Int) (w : World) (h : Good n u r c t s) (hk : 1 ≤ k ∧ k ≤ 32) (hn : 0 ≤ node ∧ node < n) (hr : 0 ≤ rd ∧ rd ≤ 100000) (hf : 16777216 ≤ node + n * (shr n u r k * (rd + 1) - 1)) :
    Calls Tryd.prog 46 #[cfg n u r c t s, .int .i64 node, .int .i64 k, .int .i64 rd] w fun x w' => x = .returned (.tuple #[.slice none 0 0, .int .i64 40]) ∧ Below w.heap.size w w' := by
  have HC := fun w => share_good n u r c t s k w h hk
  have hq := shr_range h hk.1 hk.2
  obtain ⟨g0, g1, g2, g3, g4, g5, g6, g7, g8, g9, g10, g11, g12⟩ := (show _ ∧ _ from h)
  clear h
  obtain ⟨q, hqd⟩ : ∃ q, q = shr n u r k := ⟨_, rfl⟩
  rw [← hqd] at hq HC hf
  clear hqd
  obtain ⟨q0, q1⟩ := hq
  obtain ⟨n0, n1⟩ := hn
  obtain ⟨r0, r1⟩ := hr
  obtain ⟨x0, x1⟩ := mul_range (a := q) (b := rd + 1) (A := 33) (B := 100001) (by omega) q1 (by omega) (by omega)
  have x2 : 1 ≤ q * (rd + 1) := by
    have := Int.mul_le_mul (show 1 ≤ q by omega) (show 1 ≤ rd + 1 by omega) (by omega) (by omega)
    omega
  obtain ⟨y0, y1⟩ := mul_range (a := n) (b := q * (rd + 1) - 1) (A := 8) (B := 3300033) (by omega) g1 (by omega) (by omega)
  unfold cfg at HC ⊢
  go_enter Tryd.func46, Tryd.ntmps46
  go_wp2_with (first
    | (go_at_call 50; (with_reducible refine (HC _).mono ?_); rintro e w1 ⟨rfl, hb1⟩; obtain ⟨hold, hbw, hold0, hbw0⟩ := after_callP _ _ _ hb1; have c0 : w1.cell? ⟨w.heap.size, 0, none⟩ = some (.int .i64 n) := cell_of_row _ _ 0 _ _ _ hold0)
    | (go_at_call 75; (with_reducible refine (within_yes _ _ _ _ ?hy).mono ?_); (case hy => exact ⟨by omega, by omega⟩); rintro e w' ⟨rfl, rfl⟩)
    | (go_at_call 75; (with_reducible refine (within_no _ _ _ _ ?hy).mono ?_); (case hy => omega); rintro e w' ⟨rfl, rfl⟩))
  all_goals go_ret2
  all_goals exact ⟨rfl, hbw0⟩
end Go.Proofs.YtfjcbgfgiidogaaDoor
namespace Go.Proofs.YtfjcbgfgiidogaaDoor
open Go.RowKit

theorem Tryd.infoInt : (Tryd.prog.info? 3).map (fun i => (i.zero, i.size, i.bytes)) = some (some (.int .i64 0), 1, 8) := by kernel_rfl
theorem info_partsI {P : Program} {e : TypeId} {z : Option Value} {s b : Nat} (h : (P.info? e).map (fun i => (i.zero, i.size, i.bytes)) = some (z, s, b)) : ∃ i, P.info? e = some i ∧ i.zero = z ∧ i.size = s ∧ i.bytes = b := by
  obtain ⟨i, hi, he⟩ := Option.map_eq_some_iff.1 h
  simp only [Prod.mk.injEq] at he
  exact ⟨i, hi, he.1, he.2.1, he.2.2⟩

set_option maxRecDepth 10000 in
set_option maxHeartbeats 4000000 in
theorem esis_good (n u r c t s node k rd : Int) (q : Nat) (w : World) (h : Good n u r c t s) (hqd : (q : Int) = shr n u r k) (hk : 1 ≤ k ∧ k ≤ 32) (hn : 0 ≤ node ∧ node < n) (hr : 0 ≤ rd ∧ rd ≤ 100000) (hf : node + n * (shr n u r k * (rd + 1) - 1) < 16777216) :
    Calls Tryd.prog 46 #[cfg n u r c t s, .int .i64 node, .int .i64 k, .int .i64 rd] w fun x w' => ∃ g, x = .returned (.tuple #[.slice (some ⟨g, 0, none⟩) q q, .int .i64 0]) ∧ w.heap.size ≤ g ∧
      (∃ cur : Array Value, w'.heap[g]? = some (.cells cur 3 (0, 0)) ∧ cur.size = q ∧ ∀ i, i < q → cur[i]? = some (.int .i64 (node + n * ((q : Int) * rd + (i : Int))))) ∧ Below w.heap.size w w' := by
  obtain ⟨i0, hi, hz0, hz1, hz2⟩ := info_partsI Tryd.infoInt
  have HC := fun w => share_good n u r c t s k w h hk
  have hq := shr_range h hk.1 hk.2
  obtain ⟨g0, g1, g2, g3, g4, g5, g6, g7, g8, g9, g10, g11, g12⟩ := (show _ ∧ _ from h)
  clear h
  rw [← hqd] at hq HC hf
  clear hqd
  obtain ⟨q0, q1⟩ := hq
  obtain ⟨n0, n1⟩ := hn
  obtain ⟨r0, r1⟩ := hr
  obtain ⟨x0, x1⟩ := mul_range (a := (q : Int)) (b := rd + 1) (A := 33) (B := 100001) (by omega) q1 (by omega) (by omega)
  have x2 : 1 ≤ (q : Int) * (rd + 1) := by
    have := Int.mul_le_mul (show 1 ≤ (q : Int) by omega) (show 1 ≤ rd + 1 by omega) (by omega) (by omega)
    omega
  obtain ⟨y0, y1⟩ := mul_range (a := n) (b := (q : Int) * (rd + 1) - 1) (A := 8) (B := 3300033) (by omega) g1 (by omega) (by omega)
  unfold cfg at HC ⊢
  go_enter Tryd.func46, Tryd.ntmps46
  go_wp2_with (first
    | (go_at_call 50; (with_reducible refine (HC _).mono ?_); rintro e w1 ⟨rfl, hb1⟩; obtain ⟨hold, hbw, hold0, hbw0⟩ := after_callP _ _ _ hb1; have c0 : w1.cell? ⟨w.heap.size, 0, none⟩ = some (.int .i64 n) := cell_of_row _ _ 0 _ _ _ hold0)
    | (go_at_call 75; (with_reducible refine (within_yes _ _ _ _ ?hy).mono ?_); (case hy => exact ⟨by omega, by omega⟩); rintro e w' ⟨rfl, rfl⟩)
    | (at_make; refine wpList_make_full _ rfl _ _ 24 rfl w1.heap.size 3 i0 (.int .i64 0) 1 Tryd.underlying24 hi hz0 hz1 _ _ _ _ q rfl rfl rfl rfl (by rw [hz2]; omega) (by unfold maxLen; omega) (Nat.le_refl _) ?_; intro w2 hown2 hgrow2))
  have h2 : ∃ cur : Array Value, w2.heap[w1.heap.size]? = some (.cells cur 3 (0, 0)) ∧ cur.size = q := by
    rcases hown2.2 with ⟨h', _⟩ | ⟨g', cap', cur, h', _, hg, _, _, hs, _⟩
    · cases h'
    · simp only [Value.slice.injEq, Option.some.injEq, Addr.mk.injEq] at h'
      obtain ⟨⟨rfl, _⟩, _, rfl⟩ := h'
      exact ⟨cur, hg, by omega⟩
  have hb2 : Below w1.heap.size w1 w2 := ⟨hgrow2.os, hgrow2.tape, hgrow2.output, hgrow2.size, fun i hi => hgrow2.block i hi (by simp)⟩
  have hlt : w.heap.size < w1.heap.size := (Array.getElem?_eq_some_iff.1 hold0).1
  clear hown2 hgrow2 hold hbw hb1
  obtain ⟨z0, z1⟩ := mul_range (a := (q : Int)) (b := rd) (A := 33) (B := 100000) (by omega) q1 r0 r1
  go_loopw [49] (fun i wr => ∃ j : Nat, j ≤ q ∧ i = .int .i64 j ∧ (∃ cur : Array Value, wr.heap[w1.heap.size]? = some (.cells cur 3 (0, 0)) ∧ cur.size = q ∧ ∀ i, i < j → cur[i]? = some (.int .i64 (node + n * ((q : Int) * rd + (i : Int))))) ∧ Below w1.heap.size w1 wr) (fun i _ => q - (intOf i).toNat)
  case atStart =>
    obtain ⟨cur, h3, h4⟩ := h2
    exact ⟨0, Nat.zero_le _, rfl, ⟨cur, h3, h4, fun i hi => absurd hi (by omega)⟩, hb2⟩
  case round =>
    obtain ⟨j, hj, rfl, ⟨cur, h3, h4, h5⟩, hbr⟩ := hrel
    have c1 : wr.cell? ⟨w.heap.size, 0, none⟩ = some (.int .i64 n) := (hbr.cell hlt).trans c0
    by_cases hjq : j < q
    · obtain ⟨v1, v2⟩ := mul_range (a := n) (b := (q : Int) * rd + (j : Int)) (A := 8) (B := 3300033) (by omega) g1 (by omega) (by omega)
      obtain ⟨o, ho⟩ : ∃ o, cur[j]? = some o := ⟨_, Array.getElem?_eq_getElem (by omega)⟩
      have c2 : wr.cell? ⟨w1.heap.size, j, none⟩ = some o := by
        rw [cell_of_row _ _ _ _ _ _ h3, ho]
      clear ho
      have c3 : wr.frozen? ⟨w1.heap.size, j, none⟩ = false := frozen_of_row _ _ _ _ _ h3
      have H3 := Lib.hid h3
      have H5 := Lib.hid h5
      clear h3 h5 h2
      go_wp2
      go_roundw
      case rel =>
        refine ⟨j + 1, by omega, by go_num, ⟨_, heap_setCell_same wr w1.heap.size j cur _ _ H3.out, by simp [h4], fun i hi => ?_⟩, hbr.setCell (Nat.le_refl _) _⟩
        by_cases e : i = j
        · subst e
          simp [h4, hjq]
        · rw [Array.getElem?_setIfInBounds, if_neg (by omega)]
          exact H5.out i (by omega)
      case measure => simp [intOf]; omega
    · obtain rfl : j = q := by omega
      clear h2
      have hbF : Below w.heap.size w wr := hbw0.trans (hbr.mono (Nat.le_of_lt hlt))
      have H3 := Lib.hid h3
      have H5 := Lib.hid h5
      clear h3 h5
      go_wp2
      exact bodyPost_ret (v := .tuple #[.slice (some ⟨w1.heap.size, 0, none⟩) j j, .int .i64 0]) (by simp [results, Tryd.results46, go_sem]) rfl ⟨_, rfl, Nat.le_of_lt hlt, ⟨cur, H3.out, h4, H5.out⟩, hbF⟩
end Go.Proofs.YtfjcbgfgiidogaaDoor
namespace Go.Proofs.YtfjcbgfgiidogaaDoor
open Go.RowKit

theorem intsV_of_cur {w : World} {g : Nat} {cur : Array Value} {T : TypeId} {q : Nat} (l : List Int) (hg : w.heap[g]? = some (.cells cur T (0, 0))) (hl : l.length = q) (hc : ∀ i, i < q → cur[i]? = some (.int .i64 (l.getD i 0))) (hq : q ≤ 140737488355328) : IntsV w (some ⟨g, 0, none⟩, q, q) l := by
  refine ⟨⟨by simp [hl], fun _ => ⟨g, 0, rfl, fun i hi => ?_⟩⟩, hq, Nat.le_refl _, fun h => by cases h⟩
  have hi' : i < q := hi
  rw [cell_of_row _ _ _ _ _ _ hg, Nat.zero_add, hc i hi', iv_getD (by omega)]

set_option maxRecDepth 10000 in
set_option maxHeartbeats 4000000 in
theorem some_any (w : World) :
    Calls Tryd.prog 47 #[] w fun e w' => e = .returned (cfg 5 4 3 2 4 100) ∧ Below w.heap.size w w' := by
  unfold cfg
  go_enter Tryd.func47, Tryd.ntmps47
  go_wp2
  exact bodyPost_ret (v := .agg #[.int .i64 5, .int .i64 4, .int .i64 3, .int .i64 2, .int .i64 4, .int .i64 100]) (by simp [results, Tryd.results47, go_sem]) rfl ⟨rfl, (Below.refl _ _).alloc (Nat.le_refl _) _⟩

theorem good_some : Good 5 4 3 2 4 100 := by unfold Good; omega
theorem owner_some (w : World) : Calls Tryd.prog 48 #[cfg 5 4 3 2 4 100, .int .i64 6, .int .i64 21] w fun x w' => x = .returned (.tuple #[.int .i64 1, .int .i64 1, .int .i64 0]) ∧ Below w.heap.size w w' :=
  owner_good 5 4 3 2 4 100 6 21 w good_some ⟨by omega, by omega⟩ ⟨by omega, by omega⟩
theorem esis_some (w : World) : Calls Tryd.prog 46 #[cfg 5 4 3 2 4 100, .int .i64 1, .int .i64 6, .int .i64 1] w fun x w' => ∃ g, x = .returned (.tuple #[.slice (some ⟨g, 0, none⟩) 4 4, .int .i64 0]) ∧ IntsV w' (some ⟨g, 0, none⟩, 4, 4) [21, 26, 31, 36] ∧ Below w.heap.size w w' :=
  (esis_good 5 4 3 2 4 100 1 6 1 4 w good_some rfl ⟨by omega, by omega⟩ ⟨by omega, by omega⟩ ⟨by omega, by omega⟩ (by decide +kernel)).mono fun x w' ⟨g, hx, _, ⟨cur, hg, _, hc⟩, hb⟩ =>
    ⟨g, hx, intsV_of_cur _ hg rfl (fun i hi => by
      rw [hc i hi]
      match i, hi with
      | 0, _ => rfl
      | 1, _ => rfl
      | 2, _ => rfl
      | 3, _ => rfl) (by omega), hb⟩

theorem ints_lit (w : World) : IntsV (w.alloc (.cells #[.int .i64 21, .int .i64 26, .int .i64 31, .int .i64 36] 3)) (some ⟨w.heap.size, 0, none⟩, 4, 4) [21, 26, 31, 36] :=
  intsV_of_cur _ (heap_alloc_new _ _) rfl (fun i hi => by
      match i, hi with
      | 0, _ => rfl
      | 1, _ => rfl
      | 2, _ => rfl
      | 3, _ => rfl) (by omega)

set_option maxRecDepth 10000 in
set_option maxHeartbeats 4000000 in
theorem alive_any (w : World) :
    Calls Tryd.prog 34 #[] w fun e w' => e = .returned (.bool true) ∧ Below w.heap.size w w' := by
  have KS := some_any
  have KE := esis_some
  have KO := owner_some
  unfold cfg at KS KE KO
  go_enter Tryd.func34, Tryd.ntmps34
  go_wp2_with (first
    | (have _ := hb2; go_at_call 47; (with_reducible refine (KS _).mono ?_); rintro e w4 ⟨rfl, hb4⟩)
    | (go_at_call 47; (with_reducible refine (KS _).mono ?_); rintro e w1 ⟨rfl, hb1⟩)
    | (go_at_call 46; (with_reducible refine (KE _).mono ?_); rintro e w2 ⟨g, rfl, hI, hb2⟩)
    | (go_at_call 48; (with_reducible refine (KO _).mono ?_); rintro e w3 ⟨rfl, hb3⟩)
    | (go_at_call 17; (with_reducible refine (sameInts_any _ _ _ [21, 26, 31, 36] _ _ _ [21, 26, 31, 36] _ ?h1 ?h2).mono ?_); (case h1 => exact ((hI.below hb4).below hb3).alloc); (case h2 => exact ints_lit _); rintro e w5 ⟨rfl, hb5⟩; rw [show decide (([21, 26, 31, 36] : List Int) = [21, 26, 31, 36]) = true from rfl]))
  all_goals go_ret
  all_goals first | exact ⟨rfl, (((hb1.trans (hb2.mono hb1.size)).trans (hb4.mono (Nat.le_trans hb1.size hb2.size))).trans (hb3.mono (Nat.le_trans (Nat.le_trans hb1.size hb2.size) hb4.size))).trans (((below_alloc _ _).trans (hb5.mono (by simp))).mono (Nat.le_trans (Nat.le_trans (Nat.le_trans hb1.size hb2.size) hb4.size) hb3.size))⟩ | trace_state
end Go.Proofs.YtfjcbgfgiidogaaDoor
