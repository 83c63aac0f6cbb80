/-
  tally: New, Yes, No, Count, Done, Lost.
-/
import Derived.Test.YtehaijdbmnljnaaTaB
namespace Go.Proofs.Ytehaijdbmnljnaa
open Go.RowKit

def zeros : List Int := List.replicate 8 0
def nodesOf (nodes : Int) : Nat := (min (max nodes 0) 8).toNat
theorem cnt_zeros (N : Nat) (hN : N ≤ 8) (x : Int) : cnt zeros N x = if x = 0 then N else 0 := by
  unfold cnt zeros
  rw [List.take_replicate, List.count_replicate]
  have : min N 8 = N := by omega
  rw [this]
  by_cases h : x = 0
  · subst h; simp
  · simp [h, Ne.symm h]

theorem below_drewNt {B : Nat} {a w : World} (h : Below B a w) : ∀ n, Below B a (w.drewN n)
  | 0 => h
  | n + 1 => (below_drewNt h n).drew

def tcells (need m : Int) : Array Value := #[.int .i64 need, .int .i64 0, .int .i64 0, .int .i64 0, .int .i64 0, .int .i64 0, .int .i64 0, .int .i64 0, .int .i64 0, .int .i64 m, .int .i64 0, .int .i64 0, .int .i64 0]
theorem tally_new (w : World) (need : Int) (N : Nat) : TallyV (w.alloc (.cells (tcells need N) 47)) w.heap.size need zeros N 0 0 0 :=
  ⟨_, heap_alloc_new _ _, rfl, rfl, fun i hi => (by
    match i, hi with
    | 0, _ => rfl
    | 1, _ => rfl
    | 2, _ => rfl
    | 3, _ => rfl
    | 4, _ => rfl
    | 5, _ => rfl
    | 6, _ => rfl
    | 7, _ => rfl), rfl, rfl, rfl, rfl⟩

set_option maxRecDepth 10000 in
set_option maxHeartbeats 4000000 in
theorem new_any (nodes need : Int) (w : World) :
    Calls Try.prog 9 #[.int .i64 nodes, .int .i64 need] w fun e w' => e = .returned (.pointer (some ⟨w.heap.size, 0, none⟩)) ∧ TallyI w' w.heap.size need zeros (nodesOf nodes) ∧ Below w.heap.size w w' := by
  rcases (by omega : nodes < 0 ∨ 8 < nodes ∨ (0 ≤ nodes ∧ nodes ≤ 8)) with h | h | h
  · have hN : nodesOf nodes = 0 := by unfold nodesOf; omega
    go_enter Try.func9, Try.ntmps9
    go_wp2
    obtain ⟨w5, hw5⟩ : ∃ w5, w5 = w.alloc (.cells (tcells need 0) 47) := ⟨_, rfl⟩
    have T5 : TallyV w5 w.heap.size need zeros 0 0 0 0 := by
      rw [hw5]
      exact tally_new w need 0
    have B5 : Below w.heap.size w w5 := by rw [hw5]; exact below_alloc _ _
    unfold tcells at hw5
    rw [← hw5]
    clear hw5
    obtain ⟨c0, c1, c9, c10, c11, c12, hfr⟩ := T5.cells
    go_region
    have T6 := (T5.setCount (by omega : 0 < 3) 0).drew
    simp only [if_true, if_false, show ¬ ((0 : Nat) = 1) by omega, show ¬ ((0 : Nat) = 2) by omega] at T6
    clear c0 c1 c9 c10 c11 c12 hfr
    have B6 := (B5.setCell (p := ⟨w.heap.size, 10 + 0, none⟩) (Nat.le_refl _) (.int .i64 0)).drew
    go_wp2
    go_ret
    exact ⟨rfl, ⟨by rw [hN, cnt_zeros _ (by omega), cnt_zeros _ (by omega), cnt_zeros _ (by omega)]; exact T6, by simp [zeros], by omega⟩, B6⟩
  · have hN : nodesOf nodes = 8 := by unfold nodesOf; omega
    go_enter Try.func9, Try.ntmps9
    go_wp2
    obtain ⟨w5, hw5⟩ : ∃ w5, w5 = w.alloc (.cells (tcells need 8) 47) := ⟨_, rfl⟩
    have T5 : TallyV w5 w.heap.size need zeros 8 0 0 0 := by
      rw [hw5]
      exact tally_new w need 8
    have B5 : Below w.heap.size w w5 := by rw [hw5]; exact below_alloc _ _
    unfold tcells at hw5
    rw [← hw5]
    clear hw5
    obtain ⟨c0, c1, c9, c10, c11, c12, hfr⟩ := T5.cells
    go_region
    have T6 := (T5.setCount (by omega : 0 < 3) 8).drew
    simp only [if_true, if_false, show ¬ ((0 : Nat) = 1) by omega, show ¬ ((0 : Nat) = 2) by omega] at T6
    clear c0 c1 c9 c10 c11 c12 hfr
    have B6 := (B5.setCell (p := ⟨w.heap.size, 10 + 0, none⟩) (Nat.le_refl _) (.int .i64 8)).drew
    go_wp2
    go_ret
    exact ⟨rfl, ⟨by rw [hN, cnt_zeros _ (by omega), cnt_zeros _ (by omega), cnt_zeros _ (by omega)]; exact T6, by simp [zeros], by omega⟩, B6⟩
  · obtain ⟨N, rfl⟩ := Int.eq_ofNat_of_zero_le h.1
    obtain ⟨h1, h2⟩ := h
    have hN : nodesOf (N : Int) = N := by unfold nodesOf; omega
    go_enter Try.func9, Try.ntmps9
    go_wp2
    obtain ⟨w5, hw5⟩ : ∃ w5, w5 = w.alloc (.cells (tcells need (N : Int)) 47) := ⟨_, rfl⟩
    have T5 : TallyV w5 w.heap.size need zeros N 0 0 0 := by
      rw [hw5]
      exact tally_new w need N
    have B5 : Below w.heap.size w w5 := by rw [hw5]; exact below_alloc _ _
    unfold tcells at hw5
    rw [← hw5]
    clear hw5
    obtain ⟨c0, c1, c9, c10, c11, c12, hfr⟩ := T5.cells
    go_region
    have T6 := (T5.setCount (by omega : 0 < 3) (N : Int)).drew
    simp only [if_true, if_false, show ¬ ((0 : Nat) = 1) by omega, show ¬ ((0 : Nat) = 2) by omega] at T6
    clear c0 c1 c9 c10 c11 c12 hfr
    have B6 := (B5.setCell (p := ⟨w.heap.size, 10 + 0, none⟩) (Nat.le_refl _) (.int .i64 (N : Int))).drew
    go_wp2
    go_ret
    exact ⟨rfl, ⟨by rw [hN, cnt_zeros _ (by omega), cnt_zeros _ (by omega), cnt_zeros _ (by omega)]; exact T6, by simp [zeros], by omega⟩, B6⟩

theorem yes_any (b : Nat) (need : Int) (said : List Int) (N : Nat) (ad : Option Addr) (n c : Nat) (l : List Int) (w : World) (hT : TallyI w b need said N) (hI : IntsV w (ad, n, c) l) (hne : ∀ a, ad = some a → a.block ≠ b) :
    Calls Try.prog 22 #[.pointer (some ⟨b, 0, none⟩), .slice ad n c] w fun e w' => e = .returned (.tuple #[]) ∧ TallyI w' b need (steps N 1 said l) N ∧ w.grownBy w' (some b) := by
  go_enter Try.func22, Try.ntmps22
  go_wp2_with (first | (go_at_call 25; (with_reducible refine (say_one 1 (Or.inl rfl) _ need said N _ _ _ l _ hT hI hne).mono ?_); rintro e w1 ⟨rfl, hT1, hg1⟩))
  go_end0
  exact ⟨rfl, hT1, hg1⟩
theorem no_any (b : Nat) (need : Int) (said : List Int) (N : Nat) (ad : Option Addr) (n c : Nat) (l : List Int) (w : World) (hT : TallyI w b need said N) (hI : IntsV w (ad, n, c) l) (hne : ∀ a, ad = some a → a.block ≠ b) :
    Calls Try.prog 24 #[.pointer (some ⟨b, 0, none⟩), .slice ad n c] w fun e w' => e = .returned (.tuple #[]) ∧ TallyI w' b need (steps N 2 said l) N ∧ w.grownBy w' (some b) := by
  go_enter Try.func24, Try.ntmps24
  go_wp2_with (first | (go_at_call 25; (with_reducible refine (say_one 2 (Or.inr rfl) _ need said N _ _ _ l _ hT hI hne).mono ?_); rintro e w1 ⟨rfl, hT1, hg1⟩))
  go_end0
  exact ⟨rfl, hT1, hg1⟩

set_option maxRecDepth 10000 in
theorem count_any (b : Nat) (need : Int) (said : List Int) (N : Nat) (w : World) (hT : TallyI w b need said N) :
    Calls Try.prog 14 #[.pointer (some ⟨b, 0, none⟩)] w fun e w' => e = .returned (.tuple #[.int .i64 (cnt said N 1), .int .i64 (cnt said N 2)]) ∧ Below w.heap.size w w' := by
  obtain ⟨c0, _, c9, c10, c11, c12, _⟩ := hT.v.cells
  go_enter Try.func14, Try.ntmps14
  go_wp2
  go_quiet (fail)
  all_goals go_wp2
  all_goals go_ret2
  all_goals exact ⟨rfl, below_drewNt (Below.refl _ _) _⟩

set_option maxRecDepth 10000 in
theorem done_any (b : Nat) (need : Int) (said : List Int) (N : Nat) (w : World) (hT : TallyI w b need said N) :
    Calls Try.prog 16 #[.pointer (some ⟨b, 0, none⟩)] w fun e w' => e = .returned (.bool (decide (need ≤ cnt said N 1))) ∧ Below w.heap.size w w' := by
  obtain ⟨c0, _, c9, c10, c11, c12, _⟩ := hT.v.cells
  go_enter Try.func16, Try.ntmps16
  go_wp2
  go_quiet (fail)
  all_goals go_wp2
  all_goals go_ret
  all_goals exact ⟨rfl, below_drewNt (Below.refl _ _) _⟩

set_option maxRecDepth 10000 in
theorem lost_any (b : Nat) (need : Int) (said : List Int) (N : Nat) (w : World) (hT : TallyI w b need said N) :
    Calls Try.prog 18 #[.pointer (some ⟨b, 0, none⟩)] w fun e w' => e = .returned (.bool (decide ((cnt said N 1 : Int) + cnt said N 0 < need))) ∧ Below w.heap.size w w' := by
  obtain ⟨c0, _, c9, c10, c11, c12, _⟩ := hT.v.cells
  have h0 := cnt_le said N 0
  have h1 := cnt_le said N 1
  have h8 := hT.le
  have hw : wrap64 ((cnt said N 1 : Int) + cnt said N 0) = (cnt said N 1 : Int) + cnt said N 0 := IntWalk.wrap64_in _ (by omega)
  go_enter Try.func18, Try.ntmps18
  go_wp2
  go_quiet (fail)
  all_goals go_wp2
  all_goals go_ret
  all_goals exact ⟨rfl, below_drewNt (Below.refl _ _) _⟩
end Go.Proofs.Ytehaijdbmnljnaa
