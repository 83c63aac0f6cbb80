/-
  place: Esis, what it tells.
-/
import Derived.Test.YthkpofopcnapdaaPlJ
namespace Go.Proofs.Ythkpofopcnapdaa
open Go.RowKit

theorem Try.infoInt : (Try.prog.info? 3).map (fun i => (i.zero, i.size, i.bytes)) = some (some (.int .i64 0), 1, 8) := by kernel_rfl
theorem info_partsI {P : Program} {e : TypeId} {z : Option Value} {s b : Nat} (h : (P.info? e).map (fun i => (i.zero, i.size, i.bytes)) = some (z, s, b)) : ∃ i, P.info? e = some i ∧ i.zero = z ∧ i.size = s ∧ i.bytes = b := by
  obtain ⟨i, hi, he⟩ := Option.map_eq_some_iff.1 h
  simp only [Prod.mk.injEq] at he
  exact ⟨i, hi, he.1, he.2.1, he.2.2⟩

set_option maxRecDepth 10000 in
set_option maxHeartbeats 4000000 in
theorem esis_good (n u r c t s node k rd : Int) (q : Nat) (w : World) (h : Good n u r c t s) (hqd : (q : Int) = shr n u r k) (hk : 1 ≤ k ∧ k ≤ 32) (hn : 0 ≤ node ∧ node < n) (hr : 0 ≤ rd ∧ rd ≤ 100000) (hf : node + n * (shr n u r k * (rd + 1) - 1) < 16777216) :
    Calls Try.prog 12 #[cfg n u r c t s, .int .i64 node, .int .i64 k, .int .i64 rd] w fun x w' => ∃ g, x = .returned (.tuple #[.slice (some ⟨g, 0, none⟩) q q, .int .i64 0]) ∧ w.heap.size ≤ g ∧
      (∃ cur : Array Value, w'.heap[g]? = some (.cells cur 3 (0, 0)) ∧ cur.size = q ∧ ∀ i, i < q → cur[i]? = some (.int .i64 (node + n * ((q : Int) * rd + (i : Int))))) ∧ Below w.heap.size w w' := by
  obtain ⟨i0, hi, hz0, hz1, hz2⟩ := info_partsI Try.infoInt
  have HC := fun w => share_good n u r c t s k w h hk
  have hq := shr_range h hk.1 hk.2
  obtain ⟨g0, g1, g2, g3, g4, g5, g6, g7, g8, g9, g10, g11, g12⟩ := (show _ ∧ _ from h)
  clear h
  rw [← hqd] at hq HC hf
  clear hqd
  obtain ⟨q0, q1⟩ := hq
  obtain ⟨n0, n1⟩ := hn
  obtain ⟨r0, r1⟩ := hr
  obtain ⟨x0, x1⟩ := mul_range (a := (q : Int)) (b := rd + 1) (A := 33) (B := 100001) (by omega) q1 (by omega) (by omega)
  have x2 : 1 ≤ (q : Int) * (rd + 1) := by
    have := Int.mul_le_mul (show 1 ≤ (q : Int) by omega) (show 1 ≤ rd + 1 by omega) (by omega) (by omega)
    omega
  obtain ⟨y0, y1⟩ := mul_range (a := n) (b := (q : Int) * (rd + 1) - 1) (A := 8) (B := 3300033) (by omega) g1 (by omega) (by omega)
  unfold cfg at HC ⊢
  go_enter Try.func12, Try.ntmps12
  go_wp2_with (first
    | (go_at_call 8; (with_reducible refine (HC _).mono ?_); rintro e w1 ⟨rfl, hb1⟩; obtain ⟨hold, hbw, hold0, hbw0⟩ := after_call _ _ _ hb1; have c0 : w1.cell? ⟨w.heap.size, 0, none⟩ = some (.int .i64 n) := cell_of_row _ _ 0 _ _ _ hold0)
    | (go_at_call 18; (with_reducible refine (within_yes _ _ _ _ ?hy).mono ?_); (case hy => exact ⟨by omega, by omega⟩); rintro e w' ⟨rfl, rfl⟩)
    | (at_make; refine wpList_make_full _ rfl _ _ 29 rfl w1.heap.size 3 i0 (.int .i64 0) 1 Try.underlying29 hi hz0 hz1 _ _ _ _ q rfl rfl rfl rfl (by rw [hz2]; omega) (by unfold maxLen; omega) (Nat.le_refl _) ?_; intro w2 hown2 hgrow2))
  have h2 : ∃ cur : Array Value, w2.heap[w1.heap.size]? = some (.cells cur 3 (0, 0)) ∧ cur.size = q := by
    rcases hown2.2 with ⟨h', _⟩ | ⟨g', cap', cur, h', _, hg, _, _, hs, _⟩
    · cases h'
    · simp only [Value.slice.injEq, Option.some.injEq, Addr.mk.injEq] at h'
      obtain ⟨⟨rfl, _⟩, _, rfl⟩ := h'
      exact ⟨cur, hg, by omega⟩
  have hb2 : Below w1.heap.size w1 w2 := ⟨hgrow2.os, hgrow2.tape, hgrow2.output, hgrow2.size, fun i hi => hgrow2.block i hi (by simp)⟩
  have hlt : w.heap.size < w1.heap.size := (Array.getElem?_eq_some_iff.1 hold0).1
  clear hown2 hgrow2 hold hbw hb1
  obtain ⟨z0, z1⟩ := mul_range (a := (q : Int)) (b := rd) (A := 33) (B := 100000) (by omega) q1 r0 r1
  go_loopw [49] (fun i wr => ∃ j : Nat, j ≤ q ∧ i = .int .i64 j ∧ (∃ cur : Array Value, wr.heap[w1.heap.size]? = some (.cells cur 3 (0, 0)) ∧ cur.size = q ∧ ∀ i, i < j → cur[i]? = some (.int .i64 (node + n * ((q : Int) * rd + (i : Int))))) ∧ Below w1.heap.size w1 wr) (fun i _ => q - (intOf i).toNat)
  case atStart =>
    obtain ⟨cur, h3, h4⟩ := h2
    exact ⟨0, Nat.zero_le _, rfl, ⟨cur, h3, h4, fun i hi => absurd hi (by omega)⟩, hb2⟩
  case round =>
    obtain ⟨j, hj, rfl, ⟨cur, h3, h4, h5⟩, hbr⟩ := hrel
    have c1 : wr.cell? ⟨w.heap.size, 0, none⟩ = some (.int .i64 n) := (hbr.cell hlt).trans c0
    by_cases hjq : j < q
    · obtain ⟨v1, v2⟩ := mul_range (a := n) (b := (q : Int) * rd + (j : Int)) (A := 8) (B := 3300033) (by omega) g1 (by omega) (by omega)
      obtain ⟨o, ho⟩ : ∃ o, cur[j]? = some o := ⟨_, Array.getElem?_eq_getElem (by omega)⟩
      have c2 : wr.cell? ⟨w1.heap.size, j, none⟩ = some o := by
        rw [cell_of_row _ _ _ _ _ _ h3, ho]
      clear ho
      have c3 : wr.frozen? ⟨w1.heap.size, j, none⟩ = false := frozen_of_row _ _ _ _ _ h3
      have H3 := Lib.hid h3
      have H5 := Lib.hid h5
      clear h3 h5 h2
      go_wp2
      go_roundw
      case rel =>
        refine ⟨j + 1, by omega, by go_num, ⟨_, heap_setCell_same wr w1.heap.size j cur _ _ H3.out, by simp [h4], fun i hi => ?_⟩, hbr.setCell (Nat.le_refl _) _⟩
        by_cases e : i = j
        · subst e
          simp [h4, hjq]
        · rw [Array.getElem?_setIfInBounds, if_neg (by omega)]
          exact H5.out i (by omega)
      case measure => simp [intOf]; omega
    · obtain rfl : j = q := by omega
      clear h2
      have hbF : Below w.heap.size w wr := hbw0.trans (hbr.mono (Nat.le_of_lt hlt))
      have H3 := Lib.hid h3
      have H5 := Lib.hid h5
      clear h3 h5
      go_wp2
      exact bodyPost_ret (v := .tuple #[.slice (some ⟨w1.heap.size, 0, none⟩) j j, .int .i64 0]) (by simp [results, Try.results12, go_sem]) rfl ⟨_, rfl, Nat.le_of_lt hlt, ⟨cur, H3.out, h4, H5.out⟩, hbF⟩
end Go.Proofs.Ythkpofopcnapdaa
