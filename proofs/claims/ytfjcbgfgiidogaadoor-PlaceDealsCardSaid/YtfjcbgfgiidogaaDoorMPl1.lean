/-
  Pl1: PlA PlC PlD PlF
-/
import Derived.Test.YtfjcbgfgiidogaaDoorRows
import Derived.WalkKit
import Derived.WalkSpells
import Derived.WalkLawsBesides
import Derived.Lib.Hide
import Derived.Laws.Rows
import Derived.Laws.IdiomRangeMap
import Derived.Deep.QuietTactic
import Derived.BigQuiet
import Derived.IntWalk
namespace Go.Proofs.YtfjcbgfgiidogaaDoor
open Go.RowKit

theorem ret_intP {k : IntKind} {a b : Int} (h : a = b) : Ending.returned (.int k a) = .returned (.int k b) := by rw [h]
theorem ret_boolP {a b : Bool} (h : a = b) : Ending.returned (.bool a) = .returned (.bool b) := by rw [h]

set_option maxRecDepth 10000 in
set_option maxHeartbeats 400000 in
theorem within_yes (n f l : Int) (w : World) (h : f ≤ n ∧ n ≤ l) :
    Calls Tryd.prog 75 #[.int .i64 n, .int .i64 f, .int .i64 l] w fun e w' => e = .returned (.bool true) ∧ w = w' := by
  obtain ⟨h1, h2⟩ := h
  go_enter Tryd.func75, Tryd.ntmps75
  go_wp2
  go_ret
  exact ⟨rfl, rfl⟩
set_option maxRecDepth 10000 in
set_option maxHeartbeats 400000 in
theorem within_no (n f l : Int) (w : World) (h : n < f ∨ l < n) :
    Calls Tryd.prog 75 #[.int .i64 n, .int .i64 f, .int .i64 l] w fun e w' => e = .returned (.bool false) ∧ w = w' := by
  by_cases h1 : f ≤ n
  · have h2 : l < n := by omega
    go_enter Tryd.func75, Tryd.ntmps75
    go_wp2
    go_ret
    exact ⟨ret_boolP (decide_eq_false (by omega)), rfl⟩
  · go_enter Tryd.func75, Tryd.ntmps75
    go_wp2
    go_ret
    exact ⟨rfl, rfl⟩

/-- is it a right config? -/
def Good (n u r c t s : Int) : Prop := 1 ≤ n ∧ n ≤ 8 ∧ 1 ≤ u ∧ u ≤ n ∧ 1 ≤ r ∧ r ≤ n ∧ n < u + r ∧ 1 ≤ c ∧ c ≤ 4 ∧ 1 ≤ t ∧ t ≤ 64 ∧ 1 ≤ s ∧ s ≤ 512
instance (n u r c t s : Int) : Decidable (Good n u r c t s) := by unfold Good; infer_instance
def chk (n u r c t s : Int) : Int := if Good n u r c t s then 0 else 130
theorem chk_bad {n u r c t s : Int} (h : ¬ Good n u r c t s) : chk n u r c t s = 130 := if_neg h
theorem chk_good {n u r c t s : Int} (h : Good n u r c t s) : chk n u r c t s = 0 := if_pos h
def cfg (n u r c t s : Int) : Value := .agg #[.int .i64 n, .int .i64 u, .int .i64 r, .int .i64 c, .int .i64 t, .int .i64 s]

end Go.Proofs.YtfjcbgfgiidogaaDoor
namespace Go.Proofs.YtfjcbgfgiidogaaDoor
open Go.RowKit

set_option maxRecDepth 10000 in
set_option maxHeartbeats 40000000 in
theorem check_any (n u r c t s : Int) (w : World) (hu : -9223372036854775808 ≤ u ∧ u ≤ 9223372036854775807) (hr : -9223372036854775808 ≤ r ∧ r ≤ 9223372036854775807) :
    Calls Tryd.prog 49 #[cfg n u r c t s] w fun e w' => e = .returned (.int .i64 (chk n u r c t s)) ∧ Below w.heap.size w w' := by
  unfold cfg
  by_cases a0 : 1 ≤ n
  rotate_left 1
  · have b0 : n < 1 := by omega
    clear a0
    go_enter Tryd.func49, Tryd.ntmps49
    go_wp2_with (first
    | (go_at_call 75; (with_reducible refine (within_yes _ _ _ _ ?hy).mono ?_); (case hy => exact ⟨by omega, by omega⟩); rintro e w' ⟨rfl, rfl⟩)
    | (go_at_call 75; (with_reducible refine (within_no _ _ _ _ ?hy).mono ?_); (case hy => omega); rintro e w' ⟨rfl, rfl⟩))
    go_ret
    exact ⟨ret_intP (chk_bad (by unfold Good; omega)).symm, (Below.refl _ _).alloc (Nat.le_refl _) _⟩
  by_cases a1 : n ≤ 8
  rotate_left 1
  · have b1 : 8 < n := by omega
    clear a1
    go_enter Tryd.func49, Tryd.ntmps49
    go_wp2_with (first
    | (go_at_call 75; (with_reducible refine (within_yes _ _ _ _ ?hy).mono ?_); (case hy => exact ⟨by omega, by omega⟩); rintro e w' ⟨rfl, rfl⟩)
    | (go_at_call 75; (with_reducible refine (within_no _ _ _ _ ?hy).mono ?_); (case hy => omega); rintro e w' ⟨rfl, rfl⟩))
    go_ret
    exact ⟨ret_intP (chk_bad (by unfold Good; omega)).symm, (Below.refl _ _).alloc (Nat.le_refl _) _⟩
  by_cases a2 : 1 ≤ u
  rotate_left 1
  · have b2 : u < 1 := by omega
    clear a2
    go_enter Tryd.func49, Tryd.ntmps49
    go_wp2_with (first
    | (go_at_call 75; (with_reducible refine (within_yes _ _ _ _ ?hy).mono ?_); (case hy => exact ⟨by omega, by omega⟩); rintro e w' ⟨rfl, rfl⟩)
    | (go_at_call 75; (with_reducible refine (within_no _ _ _ _ ?hy).mono ?_); (case hy => omega); rintro e w' ⟨rfl, rfl⟩))
    go_ret
    exact ⟨ret_intP (chk_bad (by unfold Good; omega)).symm, (Below.refl _ _).alloc (Nat.le_refl _) _⟩
  by_cases a3 : u ≤ n
  rotate_left 1
  · have b3 : n < u := by omega
    clear a3
    go_enter Tryd.func49, Tryd.ntmps49
    go_wp2_with (first
    | (go_at_call 75; (with_reducible refine (within_yes _ _ _ _ ?hy).mono ?_); (case hy => exact ⟨by omega, by omega⟩); rintro e w' ⟨rfl, rfl⟩)
    | (go_at_call 75; (with_reducible refine (within_no _ _ _ _ ?hy).mono ?_); (case hy => omega); rintro e w' ⟨rfl, rfl⟩))
    go_ret
    exact ⟨ret_intP (chk_bad (by unfold Good; omega)).symm, (Below.refl _ _).alloc (Nat.le_refl _) _⟩
  by_cases a4 : 1 ≤ r
  rotate_left 1
  · have b4 : r < 1 := by omega
    clear a4
    go_enter Tryd.func49, Tryd.ntmps49
    go_wp2_with (first
    | (go_at_call 75; (with_reducible refine (within_yes _ _ _ _ ?hy).mono ?_); (case hy => exact ⟨by omega, by omega⟩); rintro e w' ⟨rfl, rfl⟩)
    | (go_at_call 75; (with_reducible refine (within_no _ _ _ _ ?hy).mono ?_); (case hy => omega); rintro e w' ⟨rfl, rfl⟩))
    go_ret
    exact ⟨ret_intP (chk_bad (by unfold Good; omega)).symm, (Below.refl _ _).alloc (Nat.le_refl _) _⟩
  by_cases a5 : r ≤ n
  rotate_left 1
  · have b5 : n < r := by omega
    clear a5
    go_enter Tryd.func49, Tryd.ntmps49
    go_wp2_with (first
    | (go_at_call 75; (with_reducible refine (within_yes _ _ _ _ ?hy).mono ?_); (case hy => exact ⟨by omega, by omega⟩); rintro e w' ⟨rfl, rfl⟩)
    | (go_at_call 75; (with_reducible refine (within_no _ _ _ _ ?hy).mono ?_); (case hy => omega); rintro e w' ⟨rfl, rfl⟩))
    go_ret
    exact ⟨ret_intP (chk_bad (by unfold Good; omega)).symm, (Below.refl _ _).alloc (Nat.le_refl _) _⟩
  by_cases a6 : n < u + r
  rotate_left 1
  · have b6 : u + r ≤ n := by omega
    clear a6
    go_enter Tryd.func49, Tryd.ntmps49
    go_wp2_with (first
    | (go_at_call 75; (with_reducible refine (within_yes _ _ _ _ ?hy).mono ?_); (case hy => exact ⟨by omega, by omega⟩); rintro e w' ⟨rfl, rfl⟩)
    | (go_at_call 75; (with_reducible refine (within_no _ _ _ _ ?hy).mono ?_); (case hy => omega); rintro e w' ⟨rfl, rfl⟩))
    go_ret
    exact ⟨ret_intP (chk_bad (by unfold Good; omega)).symm, (Below.refl _ _).alloc (Nat.le_refl _) _⟩
  by_cases a7 : 1 ≤ c
  rotate_left 1
  · have b7 : c < 1 := by omega
    clear a7
    go_enter Tryd.func49, Tryd.ntmps49
    go_wp2_with (first
    | (go_at_call 75; (with_reducible refine (within_yes _ _ _ _ ?hy).mono ?_); (case hy => exact ⟨by omega, by omega⟩); rintro e w' ⟨rfl, rfl⟩)
    | (go_at_call 75; (with_reducible refine (within_no _ _ _ _ ?hy).mono ?_); (case hy => omega); rintro e w' ⟨rfl, rfl⟩))
    go_ret
    exact ⟨ret_intP (chk_bad (by unfold Good; omega)).symm, (Below.refl _ _).alloc (Nat.le_refl _) _⟩
  by_cases a8 : c ≤ 4
  rotate_left 1
  · have b8 : 4 < c := by omega
    clear a8
    go_enter Tryd.func49, Tryd.ntmps49
    go_wp2_with (first
    | (go_at_call 75; (with_reducible refine (within_yes _ _ _ _ ?hy).mono ?_); (case hy => exact ⟨by omega, by omega⟩); rintro e w' ⟨rfl, rfl⟩)
    | (go_at_call 75; (with_reducible refine (within_no _ _ _ _ ?hy).mono ?_); (case hy => omega); rintro e w' ⟨rfl, rfl⟩))
    go_ret
    exact ⟨ret_intP (chk_bad (by unfold Good; omega)).symm, (Below.refl _ _).alloc (Nat.le_refl _) _⟩
  by_cases a9 : 1 ≤ t
  rotate_left 1
  · have b9 : t < 1 := by omega
    clear a9
    go_enter Tryd.func49, Tryd.ntmps49
    go_wp2_with (first
    | (go_at_call 75; (with_reducible refine (within_yes _ _ _ _ ?hy).mono ?_); (case hy => exact ⟨by omega, by omega⟩); rintro e w' ⟨rfl, rfl⟩)
    | (go_at_call 75; (with_reducible refine (within_no _ _ _ _ ?hy).mono ?_); (case hy => omega); rintro e w' ⟨rfl, rfl⟩))
    go_ret
    exact ⟨ret_intP (chk_bad (by unfold Good; omega)).symm, (Below.refl _ _).alloc (Nat.le_refl _) _⟩
  by_cases a10 : t ≤ 64
  rotate_left 1
  · have b10 : 64 < t := by omega
    clear a10
    go_enter Tryd.func49, Tryd.ntmps49
    go_wp2_with (first
    | (go_at_call 75; (with_reducible refine (within_yes _ _ _ _ ?hy).mono ?_); (case hy => exact ⟨by omega, by omega⟩); rintro e w' ⟨rfl, rfl⟩)
    | (go_at_call 75; (with_reducible refine (within_no _ _ _ _ ?hy).mono ?_); (case hy => omega); rintro e w' ⟨rfl, rfl⟩))
    go_ret
    exact ⟨ret_intP (chk_bad (by unfold Good; omega)).symm, (Below.refl _ _).alloc (Nat.le_refl _) _⟩
  by_cases a11 : 1 ≤ s
  rotate_left 1
  · have b11 : s < 1 := by omega
    clear a11
    go_enter Tryd.func49, Tryd.ntmps49
    go_wp2_with (first
    | (go_at_call 75; (with_reducible refine (within_yes _ _ _ _ ?hy).mono ?_); (case hy => exact ⟨by omega, by omega⟩); rintro e w' ⟨rfl, rfl⟩)
    | (go_at_call 75; (with_reducible refine (within_no _ _ _ _ ?hy).mono ?_); (case hy => omega); rintro e w' ⟨rfl, rfl⟩))
    go_ret
    exact ⟨ret_intP (chk_bad (by unfold Good; omega)).symm, (Below.refl _ _).alloc (Nat.le_refl _) _⟩
  by_cases a12 : s ≤ 512
  rotate_left 1
  · have b12 : 512 < s := by omega
    clear a12
    go_enter Tryd.func49, Tryd.ntmps49
    go_wp2_with (first
    | (go_at_call 75; (with_reducible refine (within_yes _ _ _ _ ?hy).mono ?_); (case hy => exact ⟨by omega, by omega⟩); rintro e w' ⟨rfl, rfl⟩)
    | (go_at_call 75; (with_reducible refine (within_no _ _ _ _ ?hy).mono ?_); (case hy => omega); rintro e w' ⟨rfl, rfl⟩))
    go_ret
    exact ⟨ret_intP (chk_bad (by unfold Good; omega)).symm, (Below.refl _ _).alloc (Nat.le_refl _) _⟩
  go_enter Tryd.func49, Tryd.ntmps49
  go_wp2_with (first
    | (go_at_call 75; (with_reducible refine (within_yes _ _ _ _ ?hy).mono ?_); (case hy => exact ⟨by omega, by omega⟩); rintro e w' ⟨rfl, rfl⟩)
    | (go_at_call 75; (with_reducible refine (within_no _ _ _ _ ?hy).mono ?_); (case hy => omega); rintro e w' ⟨rfl, rfl⟩))
  go_ret
  exact ⟨ret_intP (chk_good (by unfold Good; omega)).symm, (Below.refl _ _).alloc (Nat.le_refl _) _⟩

end Go.Proofs.YtfjcbgfgiidogaaDoor
namespace Go.Proofs.YtfjcbgfgiidogaaDoor
open Go.RowKit

theorem after_callP (w w1 : World) (o : Obj) (hb : Below (w.alloc o).heap.size (w.alloc o) w1) :
    (∀ o', (w1.alloc o').heap[w.heap.size]? = some o) ∧ (∀ o', Below w.heap.size w (w1.alloc o')) ∧ w1.heap[w.heap.size]? = some o ∧ Below w.heap.size w w1 := by
  have h0 : w1.heap[w.heap.size]? = some o := (hb.block w.heap.size (by simp)).trans (heap_alloc_new w o)
  have hlt : w.heap.size < w1.heap.size := (Array.getElem?_eq_some_iff.1 h0).1
  have hbw : Below w.heap.size w w1 := ((Below.refl _ _).alloc (Nat.le_refl _) o).trans (hb.mono (by simp))
  exact ⟨fun o' => (heap_alloc_old w1 o' hlt).trans h0, fun o' => hbw.alloc (Nat.le_of_lt hlt) o', h0, hbw⟩

/-- how many symbols a node has. -/
def shr (n u r k : Int) : Int := (k + (u + r - n) - 1) / (u + r - n) + 1
theorem ret_twoP {k l : IntKind} {a b c d : Int} (h : a = b) (h2 : c = d) : Ending.returned (.tuple #[.int k a, .int l c]) = .returned (.tuple #[.int k b, .int l d]) := by rw [h, h2]

set_option maxRecDepth 10000 in
set_option maxHeartbeats 4000000 in
theorem share_good (n u r c t s k : Int) (w : World) (h : Good n u r c t s) (hk : 1 ≤ k ∧ k ≤ 32) :
    Calls Tryd.prog 50 #[cfg n u r c t s, .int .i64 k] w fun e w' => e = .returned (.tuple #[.int .i64 (shr n u r k), .int .i64 0]) ∧ Below w.heap.size w w' := by
  obtain ⟨g0, g1, g2, g3, g4, g5, g6, g7, g8, g9, g10, g11, g12⟩ := (show _ ∧ _ from h)
  have HC := fun w => check_any n u r c t s w ⟨by omega, by omega⟩ ⟨by omega, by omega⟩
  rw [chk_good h] at HC
  clear h
  obtain ⟨k0, k1⟩ := hk
  have d0 : 0 ≤ (k + (u + r - n) - 1) / (u + r - n) := Int.ediv_nonneg (by omega) (by omega)
  have d1 : (k + (u + r - n) - 1) / (u + r - n) ≤ k + (u + r - n) - 1 := Int.ediv_le_self _ (by omega)
  unfold cfg at HC ⊢
  go_enter Tryd.func50, Tryd.ntmps50
  go_wp2_with (first
    | (go_at_call 49; (with_reducible refine (HC _).mono ?_); rintro e w1 ⟨rfl, hb1⟩; obtain ⟨hold, hbw, hold0, hbw0⟩ := after_callP _ _ _ hb1; have c0 : w1.cell? ⟨w.heap.size, 0, none⟩ = some (.int .i64 n) := cell_of_row _ _ 0 _ _ _ hold0; have c1 : w1.cell? ⟨w.heap.size, 1, none⟩ = some (.int .i64 u) := cell_of_row _ _ 1 _ _ _ hold0; have c2 : w1.cell? ⟨w.heap.size, 2, none⟩ = some (.int .i64 r) := cell_of_row _ _ 2 _ _ _ hold0)
    | (go_at_call 75; (with_reducible refine (within_yes _ _ _ _ ?hy).mono ?_); (case hy => exact ⟨by omega, by omega⟩); rintro e w' ⟨rfl, rfl⟩))
  go_ret2
  exact ⟨rfl, hbw0⟩

set_option maxRecDepth 10000 in
set_option maxHeartbeats 4000000 in
theorem share_badk (n u r c t s k : Int) (w : World) (h : Good n u r c t s) (hk : k < 1 ∨ 32 < k) :
    Calls Tryd.prog 50 #[cfg n u r c t s, .int .i64 k] w fun e w' => e = .returned (.tuple #[.int .i64 0, .int .i64 30]) ∧ Below w.heap.size w w' := by
  obtain ⟨g0, g1, g2, g3, g4, g5, g6, g7, g8, g9, g10, g11, g12⟩ := (show _ ∧ _ from h)
  have HC := fun w => check_any n u r c t s w ⟨by omega, by omega⟩ ⟨by omega, by omega⟩
  rw [chk_good h] at HC
  clear h
  unfold cfg at HC ⊢
  go_enter Tryd.func50, Tryd.ntmps50
  go_wp2_with (first
    | (go_at_call 49; (with_reducible refine (HC _).mono ?_); rintro e w1 ⟨rfl, hb1⟩; obtain ⟨hold, hbw, hold0, hbw0⟩ := after_callP _ _ _ hb1)
    | (go_at_call 75; (with_reducible refine (within_no _ _ _ _ ?hy).mono ?_); (case hy => omega); rintro e w' ⟨rfl, rfl⟩))
  go_ret2
  exact ⟨rfl, hbw0⟩

set_option maxRecDepth 10000 in
set_option maxHeartbeats 4000000 in
theorem share_badc (n u r c t s k : Int) (w : World) (h : ¬ Good n u r c t s) (hu : -9223372036854775808 ≤ u ∧ u ≤ 9223372036854775807) (hr : -9223372036854775808 ≤ r ∧ r ≤ 9223372036854775807) :
    Calls Tryd.prog 50 #[cfg n u r c t s, .int .i64 k] w fun e w' => e = .returned (.tuple #[.int .i64 0, .int .i64 130]) ∧ Below w.heap.size w w' := by
  have HC := fun w => check_any n u r c t s w hu hr
  rw [chk_bad h] at HC
  clear h
  unfold cfg at HC ⊢
  go_enter Tryd.func50, Tryd.ntmps50
  go_wp2_with (first
    | (go_at_call 49; (with_reducible refine (HC _).mono ?_); rintro e w1 ⟨rfl, hb1⟩; obtain ⟨hold, hbw, hold0, hbw0⟩ := after_callP _ _ _ hb1))
  go_ret2
  exact ⟨rfl, hbw0⟩
end Go.Proofs.YtfjcbgfgiidogaaDoor
namespace Go.Proofs.YtfjcbgfgiidogaaDoor
open Go.RowKit

theorem below_drewN {B : Nat} {a w : World} (h : Below B a w) : ∀ n, Below B a (w.drewN n)
  | 0 => h
  | n + 1 => (below_drewN h n).drew
theorem shr_range {n u r c t s k : Int} (h : Good n u r c t s) (h1 : 1 ≤ k) (h2 : k ≤ 32) : 2 ≤ shr n u r k ∧ shr n u r k ≤ 33 := by
  obtain ⟨g0, g1, g2, g3, g4, g5, g6, g7, g8, g9, g10, g11, g12⟩ := (show _ ∧ _ from h)
  unfold shr
  have a1 : 1 ≤ (k + (u + r - n) - 1) / (u + r - n) := Int.le_ediv_of_mul_le (by omega) (by omega)
  have a2 : (k + (u + r - n) - 1) / (u + r - n) ≤ k := by
    have : (k + (u + r - n) - 1) / (u + r - n) < k + 1 := Int.ediv_lt_of_lt_mul (by omega) (by
      rw [Int.add_mul, Int.one_mul]
      have := Int.mul_le_mul_of_nonneg_left (show 1 ≤ u + r - n by omega) (show 0 ≤ k by omega)
      omega)
    omega
  omega

set_option maxRecDepth 10000 in
set_option maxHeartbeats 4000000 in
theorem owner_good (n u r c t s k e : Int) (w : World) (h : Good n u r c t s) (hk : 1 ≤ k ∧ k ≤ 32) (he : 0 ≤ e ∧ e ≤ 16777215) :
    Calls Tryd.prog 48 #[cfg n u r c t s, .int .i64 k, .int .i64 e] w fun x w' => x = .returned (.tuple #[.int .i64 (e % n), .int .i64 (e / n / shr n u r k), .int .i64 0]) ∧ Below w.heap.size w w' := by
  have hq := shr_range h hk.1 hk.2
  have HC := fun w => share_good n u r c t s k w h hk
  obtain ⟨g0, g1, g2, g3, g4, g5, g6, g7, g8, g9, g10, g11, g12⟩ := (show _ ∧ _ from h)
  clear h
  obtain ⟨q, hqd⟩ : ∃ q, q = shr n u r k := ⟨_, rfl⟩
  rw [← hqd] at hq HC ⊢
  clear hqd
  obtain ⟨q0, q1⟩ := hq
  obtain ⟨e0, e1⟩ := he
  have d0 : 0 ≤ e / n := Int.ediv_nonneg (by omega) (by omega)
  have d1 : e / n ≤ e := Int.ediv_le_self _ (by omega)
  have d2 : 0 ≤ e / n / q := Int.ediv_nonneg (by omega) (by omega)
  have d3 : e / n / q ≤ e / n := Int.ediv_le_self _ (by omega)
  unfold cfg at HC ⊢
  go_enter Tryd.func48, Tryd.ntmps48
  go_wp2_with (first
    | (go_at_call 50; (with_reducible refine (HC _).mono ?_); rintro e w1 ⟨rfl, hb1⟩; obtain ⟨hold, hbw, hold0, hbw0⟩ := after_callP _ _ _ hb1; have c0 : w1.cell? ⟨w.heap.size, 0, none⟩ = some (.int .i64 n) := cell_of_row _ _ 0 _ _ _ hold0)
    | (go_at_call 75; (with_reducible refine (within_yes _ _ _ _ ?hy).mono ?_); (case hy => exact ⟨by omega, by omega⟩); rintro e w' ⟨rfl, rfl⟩))
  have n0 : (n == 0) = false := by simp; omega
  have q9 : (q == 0) = false := by simp; omega
  have t1 : wrap64 (e.tmod n) = e % n := by
    rw [Int.tmod_eq_emod_of_nonneg e0]
    have := Int.emod_nonneg e (show n ≠ 0 by omega)
    have := Int.emod_lt_of_pos e (show 0 < n by omega)
    exact IntWalk.wrap64_in _ (by omega)
  have t2 : wrap64 (e.tdiv n) = e / n := by
    rw [Int.tdiv_eq_ediv_of_nonneg e0]
    exact IntWalk.wrap64_in _ (by omega)
  have t3 : wrap64 ((e / n).tdiv q) = e / n / q := by
    rw [Int.tdiv_eq_ediv_of_nonneg d0]
    exact IntWalk.wrap64_in _ (by omega)
  go_quiet (fail)

  all_goals go_wp2
  all_goals go_ret3
  all_goals exact ⟨rfl, below_drewN hbw0 _⟩
end Go.Proofs.YtfjcbgfgiidogaaDoor
