/-
  The reference's products, powers, logarithms and inverses (layer 1).
-/
import Derived.Test.YtgnnfpnkhemimaaGfA
import Derived.Test.YtgnnfpnkhemimaaMem
namespace Go.Proofs.Ytgnnfpnkhemimaa
open Go.RowKit

set_option maxRecDepth 100000 in
set_option maxRecDepth 10000 in
set_option maxHeartbeats 400000 in
theorem refMul_nat (a b : Nat) (w : World) (ha : a < 256) (hb : b < 256) :
    Calls Try.prog 55 #[.int .u8 (a : Int), .int .u8 (b : Int)] w fun e w' => e = .returned (.int .u8 (mul a b : Nat)) ∧ w = w' := by
  go_enter Try.func55, Try.ntmps55
  go_wp2
  go_loop [5, 6] (fun s i => ∃ k : Nat, k ≤ 8 ∧ i = .int .i64 k ∧ s = .int .i64 (longTo a b k : Nat)) (fun _ i => 8 - (intOf i).toNat)
  case atStart => exact ⟨0, Nat.zero_le _, rfl, rfl⟩
  case round =>
    obtain ⟨k, hk, rfl, rfl⟩ := hrel
    have hlong := longTo_lt (b := b) ha k hk
    have h16 : longTo a b k < 2 ^ 16 := Nat.lt_of_lt_of_le hlong (Nat.pow_le_pow_right (by decide) (by omega))
    clear hlong
    by_cases hlt : k < 8
    · have hbt := bit_test b k (by omega) (by omega)
      rw [Int.toNat_natCast] at hbt
      have hp : a * 2 ^ k < 32768 := by
        have : 2 ^ k ≤ 2 ^ 7 := Nat.pow_le_pow_right (by decide) (by omega)
        have : a * 2 ^ k ≤ a * 2 ^ 7 := Nat.mul_le_mul_left _ this
        omega
      have hx : bits .xor .i64 ((longTo a b k : Nat) : Int) (wrap64 ((a : Int) * 2 ^ k)) = ((longTo a b k ^^^ (a * 2 ^ k) : Nat) : Int) := by
        rw [show (a : Int) * 2 ^ k = ((a * 2 ^ k : Nat) : Int) from by simp, IntWalk.wrap64_in _ (by omega)]
        exact i64_xor_nat _ _ (by omega) (by omega)
      clear hp
      have HX := Lib.hid hx
      clear hx
      rcases bit_two b k with hbit | hbit
      all_goals
        rw [hbit] at hbt
        have HB := Lib.hid hbit
        clear hbit
        go_wp2
        go_round
        case rel => exact ⟨k + 1, by omega, by go_num, int_eq (by simp only [longTo, HB.out]; first | exact HX.out | rfl)⟩
        case measure => simp [intOf]; omega
    · obtain rfl : k = 8 := by omega
      have hml := mul_lt (b := b) ha
      have HR := Lib.hid (red_mul ha b)
      go_wp2
      go_loop [5, 7] (fun s i => ∃ n : Nat, n ≤ 7 ∧ i = .int .i64 (14 - (n : Int)) ∧ s = .int .i64 (redN (longTo a b 8) n : Nat)) (fun _ i => (intOf i - 6).toNat)
      case atStart => exact ⟨0, Nat.zero_le _, rfl, rfl⟩
      case round =>
        obtain ⟨n, hn, rfl, rfl⟩ := hrel
        have hrl := redN_lt h16 n hn
        by_cases hlt : n < 7
        · obtain ⟨m, hm⟩ : ∃ m : Nat, m + n = 14 := ⟨14 - n, by omega⟩
          have hi : (14 : Int) - (n : Int) = (m : Int) := by omega
          rw [hi]
          have hm8 : 8 ≤ m := by omega
          have hm14 : m ≤ 14 := by omega
          obtain ⟨s, hs⟩ : ∃ s, s = redN (longTo a b 8) n := ⟨_, rfl⟩
          have hbt := i64_bit s m (by omega)
          have hx : bits .xor .i64 (s : Int) (wrap64 (285 * 2 ^ (m - 8))) = ((s ^^^ (285 * 2 ^ (m - 8)) : Nat) : Int) := by
            have hpp : 2 ^ (m - 8) ≤ 2 ^ 6 := Nat.pow_le_pow_right (by decide) (by omega)
            rw [show (285 : Int) * 2 ^ (m - 8) = ((285 * 2 ^ (m - 8) : Nat) : Int) from by simp, IntWalk.wrap64_in _ (by omega)]
            exact i64_xor_nat _ _ (by omega) (by omega)
          have HX := Lib.hid hx
          clear hx
          have hmm : ((m : Int) - 8) = ((m - 8 : Nat) : Int) := by omega
          rw [← hs]
          have HS := Lib.hid hs
          have HM := Lib.hid hm
          have hsl : s < 65536 := by omega
          clear hs hi hm hrl
          rcases bit_two s m with hbit | hbit
          all_goals
            rw [hbit] at hbt
            have HB := Lib.hid hbit
            clear hbit
            go_wp2
            go_round
            case rel =>
              have := HM.out
              refine ⟨n + 1, by omega, int_eq (by omega), int_eq ?_⟩
              simp only [redN, redAt, show 14 - n = m by omega]
              rw [← HS.out, HB.out]
              first | exact HX.out | rfl
            case measure => simp [intOf]; omega
        · obtain rfl : n = 7 := by omega
          have he : ((redN (longTo a b 8) 7 : Nat) : Int) = ((mul a b : Nat) : Int) := by rw [redN_red, HR.out]
          rw [he]
          go_wp2
          go_ret
          exact ⟨rfl, rfl⟩

theorem refMul_nat2 (a : Nat) (w : World) (ha : a < 256) :
    Calls Try.prog 55 #[.int .u8 (a : Int), .int .u8 2] w fun e w' => e = .returned (.int .u8 (dbl a : Nat)) ∧ w = w' := by
  have := refMul_nat a 2 w ha (by omega)
  rw [mul_two ha] at this
  exact this

set_option maxRecDepth 10000 in
set_option maxHeartbeats 400000 in
theorem refInv_zero (a : Nat) (h0 : a = 0) (w : World) :
    Calls Try.prog 44 #[.int .u8 (a : Int)] w fun e w' => e = .returned (.tuple #[.int .u8 0, .int .i64 10]) ∧ w = w' := by
  have H0 := Lib.hid h0
  have ha : a < 256 := by omega
  clear h0
  go_enter Try.func44, Try.ntmps44
  go_wp2
  go_loop [4] (fun i => ∃ k : Nat, 1 ≤ k ∧ k ≤ 256 ∧ i = .int .i64 k) (fun i => (256 - intOf i).toNat)
  case atStart => exact ⟨1, by omega, by omega, rfl⟩
  case round =>
    obtain ⟨k, hk0, hk, rfl⟩ := hrel
    by_cases hlt : k < 256
    · have hne : (((mul a k : Nat) : Int) == 1) = false := beq_eq_false_iff_ne.2 (by rw [H0.out, zero_mul]; decide)
      go_wp2_with (first | (go_at_call 55; (with_reducible refine (refMul_nat _ _ _ (by omega) (by omega)).mono ?_); rintro e w' ⟨rfl, rfl⟩))
      go_round
      case rel => exact ⟨k + 1, by omega, by omega, by go_num⟩
      case measure => simp [intOf]; omega
    · go_wp2
      go_ret2
      exact ⟨rfl, rfl⟩

set_option maxRecDepth 10000 in
set_option maxHeartbeats 400000 in
theorem refInv_pos (a : Nat) (w : World) (a0 : 0 < a) (ha : a < 256) :
    Calls Try.prog 44 #[.int .u8 (a : Int)] w fun e w' => e = .returned (.tuple #[.int .u8 (inv a : Nat), .int .i64 0]) ∧ w = w' := by
  have hi1 := inv_lt a
  have hi0 := inv_ne a
  go_enter Try.func44, Try.ntmps44
  go_wp2
  go_loop [4] (fun i => ∃ k : Nat, 1 ≤ k ∧ k ≤ inv a ∧ i = .int .i64 k) (fun i => (256 - intOf i).toNat)
  case atStart => exact ⟨1, by omega, by omega, rfl⟩
  case round =>
    obtain ⟨k, hk0, hk, rfl⟩ := hrel
    by_cases hlt : k < inv a
    · have hne : (((mul a k : Nat) : Int) == 1) = false := beq_eq_false_iff_ne.2 (by
        intro e
        have := inv_only ha (by omega) (show mul a k = 1 by omega)
        omega)
      go_wp2_with (first | (go_at_call 55; (with_reducible refine (refMul_nat _ _ _ (by omega) (by omega)).mono ?_); rintro e w' ⟨rfl, rfl⟩))
      go_round
      case rel => exact ⟨k + 1, by omega, by omega, by go_num⟩
      case measure => simp [intOf]; omega
    · obtain rfl : k = inv a := by omega
      have he : (((mul a (inv a) : Nat) : Int) == 1) = true := by rw [mul_inv ha (by omega)]; rfl
      go_wp2_with (first | (go_at_call 55; (with_reducible refine (refMul_nat _ _ _ (by omega) (by omega)).mono ?_); rintro e w' ⟨rfl, rfl⟩))
      go_ret2
      exact ⟨rfl, rfl⟩

end Go.Proofs.Ytgnnfpnkhemimaa
