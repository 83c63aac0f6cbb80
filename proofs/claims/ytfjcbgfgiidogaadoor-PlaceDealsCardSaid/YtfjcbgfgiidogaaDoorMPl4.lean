/-
  Pl4: PlB PlE PlP
-/
import Derived.Test.YtfjcbgfgiidogaaDoorMPl1
import Derived.Test.YtfjcbgfgiidogaaDoorMPl2
import Derived.Test.YtfjcbgfgiidogaaDoorMPl3
import Derived.Test.YtfjcbgfgiidogaaDoorMPlB1
import Derived.Test.YtfjcbgfgiidogaaDoorMPlB2
import Derived.Test.YtfjcbgfgiidogaaDoorMPlB3
namespace Go.Proofs.YtfjcbgfgiidogaaDoor
open Go.RowKit

theorem refCheck_any (n u r c t s : Int) (w : World) (hu : -9223372036854775808 ≤ u ∧ u ≤ 9223372036854775807) (hr : -9223372036854775808 ≤ r ∧ r ≤ 9223372036854775807) :
    Calls Tryd.prog 52 #[cfg n u r c t s] w fun e w' => e = .returned (.int .i64 (chk n u r c t s)) ∧ Below w.heap.size w w' := by
  by_cases a0 : 1 ≤ n
  rotate_left 1
  · rw [chk_bad (by unfold Good; omega)]
    exact refCheck_no0 n u r c t s w hu hr  (by omega)
  by_cases a1 : n ≤ 8
  rotate_left 1
  · rw [chk_bad (by unfold Good; omega)]
    exact refCheck_no1 n u r c t s w hu hr a0 (by omega)
  by_cases a2 : 1 ≤ u
  rotate_left 1
  · rw [chk_bad (by unfold Good; omega)]
    exact refCheck_no2 n u r c t s w hu hr a0 a1 (by omega)
  by_cases a3 : u ≤ n
  rotate_left 1
  · rw [chk_bad (by unfold Good; omega)]
    exact refCheck_no3 n u r c t s w hu hr a0 a1 a2 (by omega)
  by_cases a4 : 1 ≤ r
  rotate_left 1
  · rw [chk_bad (by unfold Good; omega)]
    exact refCheck_no4 n u r c t s w hu hr a0 a1 a2 a3 (by omega)
  by_cases a5 : r ≤ n
  rotate_left 1
  · rw [chk_bad (by unfold Good; omega)]
    exact refCheck_no5 n u r c t s w hu hr a0 a1 a2 a3 a4 (by omega)
  by_cases a6 : n < u + r
  rotate_left 1
  · rw [chk_bad (by unfold Good; omega)]
    exact refCheck_no6 n u r c t s w hu hr a0 a1 a2 a3 a4 a5 (by omega)
  by_cases a7 : 1 ≤ c
  rotate_left 1
  · rw [chk_bad (by unfold Good; omega)]
    exact refCheck_no7 n u r c t s w hu hr a0 a1 a2 a3 a4 a5 a6 (by omega)
  by_cases a8 : c ≤ 4
  rotate_left 1
  · rw [chk_bad (by unfold Good; omega)]
    exact refCheck_no8 n u r c t s w hu hr a0 a1 a2 a3 a4 a5 a6 a7 (by omega)
  by_cases a9 : 1 ≤ t
  rotate_left 1
  · rw [chk_bad (by unfold Good; omega)]
    exact refCheck_no9 n u r c t s w hu hr a0 a1 a2 a3 a4 a5 a6 a7 a8 (by omega)
  by_cases a10 : t ≤ 64
  rotate_left 1
  · rw [chk_bad (by unfold Good; omega)]
    exact refCheck_no10 n u r c t s w hu hr a0 a1 a2 a3 a4 a5 a6 a7 a8 a9 (by omega)
  by_cases a11 : 1 ≤ s
  rotate_left 1
  · rw [chk_bad (by unfold Good; omega)]
    exact refCheck_no11 n u r c t s w hu hr a0 a1 a2 a3 a4 a5 a6 a7 a8 a9 a10 (by omega)
  by_cases a12 : s ≤ 512
  rotate_left 1
  · rw [chk_bad (by unfold Good; omega)]
    exact refCheck_no12 n u r c t s w hu hr a0 a1 a2 a3 a4 a5 a6 a7 a8 a9 a10 a11 (by omega)
  rw [chk_good (by unfold Good; omega)]
  exact refCheck_yes n u r c t s w hu hr a0 a1 a2 a3 a4 a5 a6 a7 a8 a9 a10 a11 a12
end Go.Proofs.YtfjcbgfgiidogaaDoor
namespace Go.Proofs.YtfjcbgfgiidogaaDoor
open Go.RowKit

theorem div_at {a m j : Int} (hm : 0 < m) (h1 : j * m ≤ a) (h2 : a < (j + 1) * m) : a / m = j := by
  have := Int.le_ediv_of_mul_le hm h1
  have := Int.ediv_lt_of_lt_mul hm h2
  omega

set_option maxRecDepth 10000 in
set_option maxHeartbeats 4000000 in
theorem refShare_good (n u r c t s k : Int) (w : World) (h : Good n u r c t s) (hk : 1 ≤ k ∧ k ≤ 32) :
    Calls Tryd.prog 76 #[cfg n u r c t s, .int .i64 k] w fun e w' => e = .returned (.tuple #[.int .i64 (shr n u r k), .int .i64 0]) ∧ Below w.heap.size w w' := by
  obtain ⟨g0, g1, g2, g3, g4, g5, g6, g7, g8, g9, g10, g11, g12⟩ := (show _ ∧ _ from h)
  have HC := fun w => refCheck_any n u r c t s w ⟨by omega, by omega⟩ ⟨by omega, by omega⟩
  rw [chk_good h] at HC
  clear h
  obtain ⟨k0, k1⟩ := hk
  unfold cfg at HC ⊢
  go_enter Tryd.func76, Tryd.ntmps76
  go_wp2_with (first
    | (go_at_call 52; (with_reducible refine (HC _).mono ?_); rintro e w1 ⟨rfl, hb1⟩; obtain ⟨hold, hbw, hold0, hbw0⟩ := after_callP _ _ _ hb1; have c0 : w1.cell? ⟨w.heap.size, 0, none⟩ = some (.int .i64 n) := cell_of_row _ _ 0 _ _ _ hold0; have c1 : w1.cell? ⟨w.heap.size, 1, none⟩ = some (.int .i64 u) := cell_of_row _ _ 1 _ _ _ hold0; have c2 : w1.cell? ⟨w.heap.size, 2, none⟩ = some (.int .i64 r) := cell_of_row _ _ 2 _ _ _ hold0))
  go_loop [8, 9] (fun q i => ∃ a j : Int, Hid (a = j * (u + r - n)) ∧ 0 ≤ j ∧ j ≤ a ∧ a < k + (u + r - n) ∧ q = .int .i64 (1 + j) ∧ i = .int .i64 a) (fun _ i => (k - intOf i).toNat)
  case atStart => exact ⟨0, 0, Lib.hid (by simp), by omega, by omega, by omega, rfl, rfl⟩
  case round =>
    obtain ⟨a, j, HJ, j0, j1, j2, rfl, rfl⟩ := hrel
    by_cases hak : a < k
    · go_wp2
      go_round
      case rel =>
        refine ⟨a + (u + r - n), j + 1, Lib.hid ?_, by omega, by omega, by omega, by go_num, by go_num⟩
        have := HJ.out
        rw [Int.add_mul, this, Int.one_mul]
      case measure => simp [intOf]; omega
    · have hs : shr n u r k = 1 + j := by
        unfold shr
        rw [div_at (j := j) (by omega) (by have := HJ.out; omega) (by have := HJ.out; rw [Int.add_mul, Int.one_mul]; omega)]
        omega
      have HS := Lib.hid hs
      clear hs
      go_wp2
      go_ret2
      exact ⟨ret_twoP HS.out.symm rfl, hbw0⟩

set_option maxRecDepth 10000 in
set_option maxHeartbeats 4000000 in
theorem refShare_badk (n u r c t s k : Int) (w : World) (h : Good n u r c t s) (hk : k < 1 ∨ 32 < k) :
    Calls Tryd.prog 76 #[cfg n u r c t s, .int .i64 k] w fun e w' => e = .returned (.tuple #[.int .i64 0, .int .i64 30]) ∧ Below w.heap.size w w' := by
  obtain ⟨g0, g1, g2, g3, g4, g5, g6, g7, g8, g9, g10, g11, g12⟩ := (show _ ∧ _ from h)
  have HC := fun w => refCheck_any n u r c t s w ⟨by omega, by omega⟩ ⟨by omega, by omega⟩
  rw [chk_good h] at HC
  clear h
  unfold cfg at HC ⊢
  rcases hk with hk | hk
  all_goals
    go_enter Tryd.func76, Tryd.ntmps76
    go_wp2_with (first
      | (go_at_call 52; (with_reducible refine (HC _).mono ?_); rintro e w1 ⟨rfl, hb1⟩; obtain ⟨hold, hbw, hold0, hbw0⟩ := after_callP _ _ _ hb1))
    go_ret2
    exact ⟨rfl, hbw0⟩

set_option maxRecDepth 10000 in
set_option maxHeartbeats 4000000 in
theorem refShare_badc (n u r c t s k : Int) (w : World) (h : ¬ Good n u r c t s) (hu : -9223372036854775808 ≤ u ∧ u ≤ 9223372036854775807) (hr : -9223372036854775808 ≤ r ∧ r ≤ 9223372036854775807) :
    Calls Tryd.prog 76 #[cfg n u r c t s, .int .i64 k] w fun e w' => e = .returned (.tuple #[.int .i64 0, .int .i64 130]) ∧ Below w.heap.size w w' := by
  have HC := fun w => refCheck_any n u r c t s w hu hr
  rw [chk_bad h] at HC
  clear h
  unfold cfg at HC ⊢
  go_enter Tryd.func76, Tryd.ntmps76
  go_wp2_with (first
    | (go_at_call 52; (with_reducible refine (HC _).mono ?_); rintro e w1 ⟨rfl, hb1⟩; obtain ⟨hold, hbw, hold0, hbw0⟩ := after_callP _ _ _ hb1))
  go_ret2
  exact ⟨rfl, hbw0⟩
end Go.Proofs.YtfjcbgfgiidogaaDoor
namespace Go.Proofs.YtfjcbgfgiidogaaDoor
open Go.RowKit

theorem growI {w wr w1 : World} {e : TypeId} {size : Nat} {v : Value} {n : Nat} {xs : List Value} (hb : Below w.heap.size w wr) (o : Obj) (hown : wr.ownsRow w.heap.size e size v n xs) (hg : (wr.alloc o).grownBy w1 v.ownBlock) : Below w.heap.size w w1 :=
  below_grown (hb.alloc hb.size o) hg (ownBlock_ge hown)
theorem iv_one (l : List Int) : ∀ u ∈ l.map iv, u.oneCell' = true := by
  intro u hu
  simp at hu
  obtain ⟨x, _, rfl⟩ := hu
  rfl
theorem intsV_of_owns {w : World} {base : Nat} {T : TypeId} {ad : Option Addr} {cap n : Nat} {l : List Int} (h : w.ownsRow base T 1 (.slice ad n cap) n (l.map iv)) (hs : n ≤ 140737488355328) : IntsV w (ad, n, cap) l := by
  obtain ⟨ad', cap', e, hcase, hnc, _, hrow⟩ := ownsRow_parts h
  cases e
  exact ⟨hrow, hs, hnc, fun e => by rcases hcase with ⟨_, _, hc⟩ | ⟨g, hg, _⟩; exact hc; rw [hg] at e; cases e⟩

/-- the numbers of a node. -/
def esisL (node n q rd : Int) (k : Nat) : List Int := (List.range k).map fun (j : Nat) => node + n * (q * rd + (j : Int))
theorem esisL_length (node n q rd : Int) (k : Nat) : (esisL node n q rd k).length = k := by simp [esisL]
theorem esisL_step (node n q rd : Int) (k : Nat) : esisL node n q rd (k + 1) = esisL node n q rd k ++ [node + n * (q * rd + (k : Int))] := by simp [esisL, List.range_succ]
theorem esisL_getD (node n q rd : Int) {k i : Nat} (h : i < k) : (esisL node n q rd k).getD i 0 = node + n * (q * rd + (i : Int)) := by
  simp [esisL, List.getD_eq_getElem?_getD, h]

set_option maxRecDepth 10000 in
set_option maxHeartbeats 4000000 in
theorem refEsis_badc (n u r c t s node k rd : Int) (w : World) (h : ¬ Good n u r c t s) (hu : -9223372036854775808 ≤ u ∧ u ≤ 9223372036854775807) (hr : -9223372036854775808 ≤ r ∧ r ≤ 9223372036854775807) :
    Calls Tryd.prog 53 #[cfg n u r c t s, .int .i64 node, .int .i64 k, .int .i64 rd] w fun x w' => x = .returned (.tuple #[.slice none 0 0, .int .i64 130]) ∧ Below w.heap.size w w' := by
  have HC := fun w => refShare_badc n u r c t s k w h hu hr
  unfold cfg at HC ⊢
  go_enter Tryd.func53, Tryd.ntmps53
  go_wp2_with (first
      | (go_at_call 76; (with_reducible refine (HC _).mono ?_); rintro e w1 ⟨rfl, hb1⟩; obtain ⟨hold, hbw, hold0, hbw0⟩ := after_callP _ _ _ hb1; have c0 : w1.cell? ⟨w.heap.size, 0, none⟩ = some (.int .i64 n) := cell_of_row _ _ 0 _ _ _ hold0))
  go_ret2
  exact ⟨rfl, hbw0⟩

set_option maxRecDepth 10000 in
set_option maxHeartbeats 4000000 in
theorem refEsis_badk (n u r c t s node k rd : Int) (w : World) (h : Good n u r c t s) (hk : k < 1 ∨ 32 < k) :
    Calls Tryd.prog 53 #[cfg n u r c t s, .int .i64 node, .int .i64 k, .int .i64 rd] w fun x w' => x = .returned (.tuple #[.slice none 0 0, .int .i64 30]) ∧ Below w.heap.size w w' := by
  have HC := fun w => refShare_badk n u r c t s k w h hk
  unfold cfg at HC ⊢
  go_enter Tryd.func53, Tryd.ntmps53
  go_wp2_with (first
      | (go_at_call 76; (with_reducible refine (HC _).mono ?_); rintro e w1 ⟨rfl, hb1⟩; obtain ⟨hold, hbw, hold0, hbw0⟩ := after_callP _ _ _ hb1; have c0 : w1.cell? ⟨w.heap.size, 0, none⟩ = some (.int .i64 n) := cell_of_row _ _ 0 _ _ _ hold0))
  go_ret2
  exact ⟨rfl, hbw0⟩

set_option maxRecDepth 10000 in
set_option maxHeartbeats 4000000 in
theorem refEsis_badn (n u r c t s node k rd : Int) (w : World) (h : Good n u r c t s) (hk : 1 ≤ k ∧ k ≤ 32) (hn : node < 0 ∨ n ≤ node) :
    Calls Tryd.prog 53 #[cfg n u r c t s, .int .i64 node, .int .i64 k, .int .i64 rd] w fun x w' => x = .returned (.tuple #[.slice none 0 0, .int .i64 120]) ∧ Below w.heap.size w w' := by
  have HC := fun w => refShare_good n u r c t s k w h hk
  obtain ⟨g0, g1, g2, g3, g4, g5, g6, g7, g8, g9, g10, g11, g12⟩ := (show _ ∧ _ from h)
  clear h
  unfold cfg at HC ⊢
  rcases hn with hn | hn
  all_goals
    go_enter Tryd.func53, Tryd.ntmps53
    go_wp2_with (first
        | (go_at_call 76; (with_reducible refine (HC _).mono ?_); rintro e w1 ⟨rfl, hb1⟩; obtain ⟨hold, hbw, hold0, hbw0⟩ := after_callP _ _ _ hb1; have c0 : w1.cell? ⟨w.heap.size, 0, none⟩ = some (.int .i64 n) := cell_of_row _ _ 0 _ _ _ hold0))
    go_ret2
    exact ⟨rfl, hbw0⟩

set_option maxRecDepth 10000 in
set_option maxHeartbeats 4000000 in
theorem refEsis_late (n u r c t s node k rd : Int) (w : World) (h : Good n u r c t s) (hk : 1 ≤ k ∧ k ≤ 32) (hn : 0 ≤ node ∧ node < n) (hr : rd < 0 ∨ 100000 < rd) :
    Calls Tryd.prog 53 #[cfg n u r c t s, .int .i64 node, .int .i64 k, .int .i64 rd] w fun x w' => x = .returned (.tuple #[.slice none 0 0, .int .i64 40]) ∧ Below w.heap.size w w' := by
  have HC := fun w => refShare_good n u r c t s k w h hk
  obtain ⟨g0, g1, g2, g3, g4, g5, g6, g7, g8, g9, g10, g11, g12⟩ := (show _ ∧ _ from h)
  clear h
  obtain ⟨n0, n1⟩ := hn
  unfold cfg at HC ⊢
  rcases hr with hr | hr
  all_goals
    go_enter Tryd.func53, Tryd.ntmps53
    go_wp2_with (first
        | (go_at_call 76; (with_reducible refine (HC _).mono ?_); rintro e w1 ⟨rfl, hb1⟩; obtain ⟨hold, hbw, hold0, hbw0⟩ := after_callP _ _ _ hb1; have c0 : w1.cell? ⟨w.heap.size, 0, none⟩ = some (.int .i64 n) := cell_of_row _ _ 0 _ _ _ hold0))
    go_ret2
    exact ⟨rfl, hbw0⟩

set_option maxRecDepth 10000 in
set_option maxHeartbeats 4000000 in
theorem refEsis_in (n u r c t s node k rd : Int) (q : Nat) (w : World) (h : Good n u r c t s) (hqd : (q : Int) = shr n u r k) (hk : 1 ≤ k ∧ k ≤ 32) (hn : 0 ≤ node ∧ node < n) (hr : 0 ≤ rd ∧ rd ≤ 100000) :
    Calls Tryd.prog 53 #[cfg n u r c t s, .int .i64 node, .int .i64 k, .int .i64 rd] w fun x w' => Below w.heap.size w w' ∧
      ((16777216 ≤ node + n * ((q : Int) * (rd + 1) - 1) ∧ x = .returned (.tuple #[.slice none 0 0, .int .i64 40])) ∨
       (node + n * ((q : Int) * (rd + 1) - 1) < 16777216 ∧ ∃ ad cap, x = .returned (.tuple #[.slice ad q cap, .int .i64 0]) ∧ IntsV w' (ad, q, cap) (esisL node n q rd q))) := by
  obtain ⟨i0, hi, hz0, hz1, hz2⟩ := info_partsI Tryd.infoInt
  have HC := fun w => refShare_good n u r c t s k w h hk
  have hq := shr_range h hk.1 hk.2
  obtain ⟨g0, g1, g2, g3, g4, g5, g6, g7, g8, g9, g10, g11, g12⟩ := (show _ ∧ _ from h)
  clear h
  rw [← hqd] at hq HC
  clear hqd
  obtain ⟨q0, q1⟩ := hq
  obtain ⟨n0, n1⟩ := hn
  obtain ⟨r0, r1⟩ := hr
  obtain ⟨z0, z1⟩ := mul_range (a := (q : Int)) (b := rd) (A := 33) (B := 100000) (by omega) q1 r0 r1
  have hlast : (q : Int) * (rd + 1) - 1 = (q : Int) * rd + ((q - 1 : Nat) : Int) := by
    rw [Int.mul_add, Int.mul_one]; omega
  rw [hlast]
  clear hlast
  unfold cfg at HC ⊢
  go_enter Tryd.func53, Tryd.ntmps53
  go_wp2_with (first
    | (go_at_call 76; (with_reducible refine (HC _).mono ?_); rintro e w1 ⟨rfl, hb1⟩; obtain ⟨hold, hbw, hold0, hbw0⟩ := after_callP _ _ _ hb1; have c0 : w1.cell? ⟨w.heap.size, 0, none⟩ = some (.int .i64 n) := cell_of_row _ _ 0 _ _ _ hold0))
  have hlt : w.heap.size < w1.heap.size := (Array.getElem?_eq_some_iff.1 hold0).1
  have hown0 := World.ownsRow_made (base := w1.heap.size) (e := 3) (size := 1) w1 #[] 0 (Nat.le_refl _) (by simp [maxLen]) rfl
  clear hold hbw hb1 HC
  go_loopw [12, 13] (fun v i wr => ∃ k : Nat, k ≤ q ∧ i = .int .i64 k ∧ wr.ownsRow w1.heap.size 3 1 v k ((esisL node n q rd k).map iv) ∧ Hid (∀ j : Nat, j < k → node + n * ((q : Int) * rd + (j : Int)) < 16777216) ∧ Below w1.heap.size w1 wr) (fun _ i _ => (q - intOf i).toNat)
  case atStart => exact ⟨0, Nat.zero_le _, rfl, by simpa [esisL] using hown0, Lib.hid (fun j hj => absurd hj (by omega)), below_alloc _ _⟩
  case round =>
    obtain ⟨j, hj, rfl, hown, HF, hbr⟩ := hrel
    obtain ⟨ad, cap, rfl, hcase, _⟩ := ownsRow_parts hown
    have hbs := hbr.size
    have c1 : wr.cell? ⟨w.heap.size, 0, none⟩ = some (.int .i64 n) := (hbr.cell hlt).trans c0
    by_cases hjq : j < q
    · obtain ⟨v1, v2⟩ := mul_range (a := n) (b := (q : Int) * rd + (j : Int)) (A := 8) (B := 3300033) (by omega) g1 (by omega) (by omega)
      by_cases hv : node + n * ((q : Int) * rd + (j : Int)) < 16777216
      · go_wp2_with (first
          | (at_builtin; refine wpList_append_row rfl (.tmp 56) (.tmp 58) 24 rfl w1.heap.size 3 i0 (.int .i64 0) 8 Tryd.underlying24 hi hz0 hz1 hz2 rfl _ _ _ rfl (hown.alloc _) (some ⟨wr.heap.size, 0, Option.none⟩) 1 1 [iv (node + n * ((q : Int) * rd + (j : Int)))] rfl (rowV_lit _ _ _ _ _ _ rfl rfl rfl) (by intro h; cases h) (iv_one [node + n * ((q : Int) * rd + (j : Int))]) (by simp [maxLen]; omega) (by omega) (by simp; omega) ?_; intro v' w2 hown2 hgrow2 _))
        have hb2 := growI hbr _ hown hgrow2
        clear hgrow2
        go_wp2
        go_roundw
        case rel =>
          refine ⟨j + 1, by omega, by go_num, ?_, Lib.hid (fun i hi => ?_), hb2⟩
          · rw [esisL_step, List.map_append]
            exact hown2
          · by_cases e : i = j
            · subst e; exact hv
            · exact HF.out i (by omega)
        case measure => simp [intOf]; omega
      · have hfar : 16777216 ≤ node + n * ((q : Int) * rd + ((q - 1 : Nat) : Int)) := by
          have := Int.mul_le_mul_of_nonneg_left (show (q : Int) * rd + (j : Int) ≤ (q : Int) * rd + ((q - 1 : Nat) : Int) by omega) (show 0 ≤ n by omega)
          omega
        have HFAR := Lib.hid hfar
        clear hfar
        go_wp2
        go_ret2
        exact ⟨hbw0.trans (hbr.mono (Nat.le_of_lt hlt)), .inl ⟨HFAR.out, rfl⟩⟩
    · obtain rfl : j = q := by omega
      have hnear := HF.out (j - 1) (by omega)
      have HN := Lib.hid hnear
      clear hnear
      have hI := intsV_of_owns hown (by omega)
      have hbF := hbw0.trans (hbr.mono (Nat.le_of_lt hlt))
      go_wp2
      exact bodyPost_ret (v := .tuple #[.slice ad j cap, .int .i64 0]) (by simp [results, Tryd.results53, go_sem]) rfl ⟨hbF, .inr ⟨HN.out, ad, cap, rfl, hI⟩⟩
end Go.Proofs.YtfjcbgfgiidogaaDoor
