/-
  gf: the contracts of double, Mul, Exp, Log, Inv.
-/
import Derived.Test.YtgnnfpnkhemimaaRows
import Derived.Test.YtgnnfpnkhemimaaGfM
import Derived.WalkKit
import Derived.WalkSpells
import Derived.WalkLawsBesides
import Derived.Lib.Hide
namespace Go.Proofs.Ytgnnfpnkhemimaa
open Go.RowKit

theorem ret_int {k : IntKind} {a b : Int} (h : a = b) : Ending.returned (.int k a) = .returned (.int k b) := by rw [h]
theorem ret_two {k k' : IntKind} {a b c d : Int} (h : a = b) (h' : c = d) : Ending.returned (.tuple #[.int k a, .int k' c]) = .returned (.tuple #[.int k b, .int k' d]) := by rw [h, h']
theorem int_eq {k : IntKind} {a b : Int} (h : a = b) : Value.int k a = .int k b := by rw [h]

set_option maxHeartbeats 400000 in
theorem double_any (a : Int) (w : World) (h0 : 0 ≤ a) (h1 : a < 256) :
    Calls Try.prog 59 #[.int .u8 a] w fun e w' => e = .returned (.int .u8 (dbl a.toNat : Nat)) ∧ w = w' := by
  by_cases h : a < 128
  · go_enter Try.func59, Try.ntmps59
    go_wp2
    go_ret
    exact ⟨ret_int (by unfold dbl; rw [if_pos (by omega)]; omega), rfl⟩
  · go_enter Try.func59, Try.ntmps59
    go_wp2
    go_ret
    refine ⟨ret_int ?_, rfl⟩
    rw [u8_xor _ _ (by omega) (by omega) (by omega) (by omega)]
    unfold dbl; rw [if_neg (by omega)]
    congr 2
    omega

theorem bit_test (b : Int) (k : Nat) (b0 : 0 ≤ b) (b1 : b < 256) : bits .and .u8 (b / 2 ^ k) 1 = (bit b.toNat k : Nat) := by
  obtain ⟨n, rfl⟩ := Int.eq_ofNat_of_zero_le b0
  have e : ((n : Int) / 2 ^ k) = ((n / 2 ^ k : Nat) : Int) := by simp
  have hlt : n / 2 ^ k < 256 := by have := Nat.div_le_self n (2 ^ k); omega
  rw [e, show (1 : Int) = ((1 : Nat) : Int) from rfl, u8_and_nat _ _ hlt (by omega), nat_mask1]
  rfl

set_option maxHeartbeats 400000 in
theorem mul_any (a b : Int) (w : World) (a0 : 0 ≤ a) (a1 : a < 256) (b0 : 0 ≤ b) (b1 : b < 256) :
    Calls Try.prog 58 #[.int .u8 a, .int .u8 b] w fun e w' => e = .returned (.int .u8 (mul a.toNat b.toNat : Nat)) ∧ w = w' := by
  go_enter Try.func58, Try.ntmps58
  go_wp2
  go_loop [0, 5, 7] (fun u p i => ∃ k : Nat, k ≤ 8 ∧ i = .int .i64 k ∧ u = .int .u8 (dblN a.toNat k : Nat) ∧ p = .int .u8 (mulTo a.toNat b.toNat k : Nat)) (fun _ _ i => 8 - (intOf i).toNat)
  case atStart => exact ⟨0, Nat.zero_le _, rfl, by simp [dblN]; omega, rfl⟩
  case round =>
    obtain ⟨k, hk, rfl, rfl, rfl⟩ := hrel
    have hd := dblN_lt (a := a.toNat) (by omega) k
    have hm := mulTo_lt (a := a.toNat) (b := b.toNat) (by omega) k
    by_cases hlt : k < 8
    · have hb := bit_test b k b0 b1
      obtain ⟨t, ht, hbit⟩ : ∃ t : Bool, (bits BinOp.and IntKind.u8 (b / 2 ^ k) 1 == 1) = t ∧ (if t then bit b.toNat k = 1 else ¬ bit b.toNat k = 1) := by
        refine ⟨_, rfl, ?_⟩
        rw [hb]
        by_cases e : bit b.toNat k = 1
        · simp [e]
        · have e' : (((bit b.toNat k : Nat) : Int) == 1) = false := beq_eq_false_iff_ne.2 (by omega)
          simp [e', e]
      clear hb
      cases t
      all_goals
        simp at hbit
        go_wp2_with (first | (go_at_call 59; refine (double_any _ _ (by omega) (by omega)).mono ?_; rintro e w' ⟨rfl, rfl⟩))
        go_round
        case rel => exact ⟨k + 1, by omega, by go_num, by simp [dblN], int_eq (by simp only [mulTo]; first | rw [if_pos hbit, u8_xor_nat _ _ hm hd] | rw [if_neg hbit])⟩
        case measure => simp [intOf]; omega
    · obtain rfl : k = 8 := by omega
      go_wp2
      go_ret
      exact ⟨rfl, rfl⟩

theorem tmod_lo (n : Int) : -255 < n.tmod 255 := by
  rcases Int.le_total 0 n with h | h
  · rw [Int.tmod_eq_emod_of_nonneg h]; omega
  · rw [← Int.neg_neg n, Int.neg_tmod, Int.tmod_eq_emod_of_nonneg (by omega)]; omega
theorem tmod_hi (n : Int) : n.tmod 255 < 255 := by
  rcases Int.le_total 0 n with h | h
  · rw [Int.tmod_eq_emod_of_nonneg h]; omega
  · rw [← Int.neg_neg n, Int.neg_tmod, Int.tmod_eq_emod_of_nonneg (by omega)]; omega
theorem tmod_mod (n : Int) : n % 255 = if n.tmod 255 < 0 then n.tmod 255 + 255 else n.tmod 255 := by
  rcases Int.le_total 0 n with h | h
  · rw [Int.tmod_eq_emod_of_nonneg h]; split <;> omega
  · have e : n.tmod 255 = - ((-n) % 255) := by rw [← Int.neg_neg n, Int.neg_tmod, Int.tmod_eq_emod_of_nonneg (by omega)]; simp
    rw [e]; split <;> omega

set_option maxHeartbeats 400000 in
theorem exp_any (n : Int) (w : World) :
    Calls Try.prog 54 #[.int .i64 n] w fun e w' => e = .returned (.int .u8 (pw (n % 255).toNat : Nat)) ∧ w = w' := by
  have h1 := tmod_lo n
  have h2 := tmod_hi n
  have H := Lib.hid (tmod_mod n)
  by_cases h : n.tmod 255 < 0
  · go_enter Try.func54, Try.ntmps54
    go_wp2
    go_loop [3, 11] (fun p i => ∃ k : Nat, (k : Int) ≤ n.tmod 255 + 255 ∧ i = .int .i64 k ∧ p = .int .u8 (pw k : Nat)) (fun _ i => (n.tmod 255 + 255 - intOf i).toNat)
    case atStart => exact ⟨0, by omega, rfl, rfl⟩
    case round =>
      obtain ⟨k, hk, rfl, rfl⟩ := hrel
      have hp := pw_lt k
      by_cases hlt : (k : Int) < n.tmod 255 + 255
      · go_wp2_with (first | (go_at_call 59; refine (double_any _ _ (by omega) (by omega)).mono ?_; rintro e w' ⟨rfl, rfl⟩))
        go_round
        case rel => exact ⟨k + 1, by omega, by go_num, by simp [pw, dblN]⟩
        case measure => simp [intOf]; omega
      · go_wp2
        go_ret
        refine ⟨ret_int ?_, rfl⟩
        have := H.out
        rw [if_pos h] at this
        rw [this, show k = (n.tmod 255 + 255).toNat by omega]
  · go_enter Try.func54, Try.ntmps54
    go_wp2
    go_loop [3, 11] (fun p i => ∃ k : Nat, (k : Int) ≤ n.tmod 255 ∧ i = .int .i64 k ∧ p = .int .u8 (pw k : Nat)) (fun _ i => (n.tmod 255 - intOf i).toNat)
    case atStart => exact ⟨0, by omega, rfl, rfl⟩
    case round =>
      obtain ⟨k, hk, rfl, rfl⟩ := hrel
      have hp := pw_lt k
      by_cases hlt : (k : Int) < n.tmod 255
      · go_wp2_with (first | (go_at_call 59; refine (double_any _ _ (by omega) (by omega)).mono ?_; rintro e w' ⟨rfl, rfl⟩))
        go_round
        case rel => exact ⟨k + 1, by omega, by go_num, by simp [pw, dblN]⟩
        case measure => simp [intOf]; omega
      · go_wp2
        go_ret
        refine ⟨ret_int ?_, rfl⟩
        have := H.out
        rw [if_neg (by omega)] at this
        rw [this, show k = (n.tmod 255).toNat by omega]

set_option maxHeartbeats 400000 in
theorem log_zero (w : World) :
    Calls Try.prog 53 #[.int .u8 0] w fun e w' => e = .returned (.tuple #[.int .i64 0, .int .i64 10]) ∧ w = w' := by
  go_enter Try.func53, Try.ntmps53
  go_wp2
  go_ret2
  exact ⟨rfl, rfl⟩

set_option maxHeartbeats 400000 in
theorem log_pos (a : Int) (w : World) (a0 : 0 < a) (a1 : a < 256) :
    Calls Try.prog 53 #[.int .u8 a] w fun e w' => e = .returned (.tuple #[.int .i64 (lg a.toNat : Nat), .int .i64 0]) ∧ w = w' := by
  have hl := lg_lt (a := a.toNat) (by omega) (by omega)
  have HP := Lib.hid (pw_lg (a := a.toNat) (by omega) (by omega))
  have ha : (a == 0) = false := beq_eq_false_iff_ne.2 (by omega)
  go_enter Try.func53, Try.ntmps53
  go_wp2
  go_loop [4, 5] (fun i p => ∃ k : Nat, k ≤ lg a.toNat ∧ i = .int .i64 k ∧ p = .int .u8 (pw k : Nat)) (fun i _ => (lg a.toNat - intOf i).toNat)
  case atStart => exact ⟨0, by omega, rfl, rfl⟩
  case round =>
    obtain ⟨k, hk, rfl, rfl⟩ := hrel
    have hp := pw_lt k
    by_cases hlt : k < lg a.toNat
    · have hne : ((pw k : Nat) : Int) ≠ a := by
        intro e
        have h2 : pw k = a.toNat := by omega
        have h3 := pw_inj (n := k) (m := lg a.toNat) (by omega) hl (by rw [HP.out, h2])
        omega
      have hne' : (((pw k : Nat) : Int) != a) = true := by rw [bne_iff_ne]; exact hne
      go_wp2_with (first | (go_at_call 59; refine (double_any _ _ (by omega) (by omega)).mono ?_; rintro e w' ⟨rfl, rfl⟩))
      go_round
      case rel => exact ⟨k + 1, by omega, by go_num, by simp [pw, dblN]⟩
      case measure => simp [intOf]; omega
    · obtain rfl : k = lg a.toNat := by omega
      have he : (((pw (lg a.toNat) : Nat) : Int) == a) = true := by rw [HP.out]; simp; omega
      have he' : (((pw (lg a.toNat) : Nat) : Int) != a) = false := by rw [HP.out]; simp; omega
      go_wp2
      go_ret2
      exact ⟨rfl, rfl⟩

set_option maxHeartbeats 400000 in
theorem inv_zero (w : World) :
    Calls Try.prog 43 #[.int .u8 0] w fun e w' => e = .returned (.tuple #[.int .u8 0, .int .i64 10]) ∧ w = w' := by
  go_enter Try.func43, Try.ntmps43
  go_wp2_with (first | (go_at_call 53; refine (log_zero _).mono ?_; rintro e w' ⟨rfl, rfl⟩))
  go_ret2
  exact ⟨rfl, rfl⟩

set_option maxHeartbeats 400000 in
theorem inv_pos (a : Int) (w : World) (a0 : 0 < a) (a1 : a < 256) :
    Calls Try.prog 43 #[.int .u8 a] w fun e w' => e = .returned (.tuple #[.int .u8 (inv a.toNat : Nat), .int .i64 0]) ∧ w = w' := by
  have hl := lg_lt (a := a.toNat) (by omega) (by omega)
  go_enter Try.func43, Try.ntmps43
  go_wp2_with (first | (go_at_call 53; refine (log_pos _ _ a0 a1).mono ?_; rintro e w' ⟨rfl, rfl⟩) | (go_at_call 54; refine (exp_any _ _).mono ?_; rintro e w' ⟨rfl, rfl⟩))
  go_ret2
  have e : (-((lg a.toNat : Nat) : Int) % 255).toNat = (255 - lg a.toNat) % 255 := by omega
  exact ⟨ret_two (by unfold inv; rw [e]) rfl, rfl⟩

end Go.Proofs.Ytgnnfpnkhemimaa
