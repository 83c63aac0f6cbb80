/-
  rillref01: the reference's powers (for seats without its logarithms).
-/
import Derived.Test.YtfjcbgfgiidogaaDoorMBase
namespace Go.Proofs.YtfjcbgfgiidogaaDoor
open Go.RowKit

set_option maxRecDepth 10000 in
set_option maxHeartbeats 400000 in
theorem refExp_any (n : Int) (w : World) :
    Calls Tryd.prog 98 #[.int .i64 n] w fun e w' => e = .returned (.int .u8 (pw (n % 255).toNat : Nat)) ∧ w = w' := by
  have h1 := tmod_lo n
  have h2 := tmod_hi n
  have H := Lib.hid (tmod_mod n)
  obtain ⟨t, ht⟩ : ∃ t, t = n.tmod 255 := ⟨_, rfl⟩
  by_cases h : n.tmod 255 < 0
  · go_enter Tryd.func98, Tryd.ntmps98
    go_wp2
    go_loop [3, 4] (fun p i => ∃ k : Nat, (k : Int) ≤ n.tmod 255 + 255 ∧ i = .int .i64 k ∧ p = .int .u8 (pw k : Nat)) (fun _ i => (n.tmod 255 + 255 - intOf i).toNat)
    case atStart => exact ⟨0, by omega, rfl, rfl⟩
    case round =>
      obtain ⟨k, hk, rfl, rfl⟩ := hrel
      have hp := pw_lt k
      by_cases hlt : (k : Int) < n.tmod 255 + 255
      · go_wp2_with (first | (go_at_call 106; (with_reducible refine (refMul_nat2 _ _ (by omega)).mono ?_); rintro e w' ⟨rfl, rfl⟩))
        go_round
        case rel => exact ⟨k + 1, by omega, by go_num, by simp [pw, dblN]⟩
        case measure => simp [intOf]; omega
      · go_wp2
        go_ret
        refine ⟨ret_int ?_, rfl⟩
        have := H.out
        rw [if_pos h] at this
        rw [this, show k = (n.tmod 255 + 255).toNat by omega]
  · go_enter Tryd.func98, Tryd.ntmps98
    go_wp2
    go_loop [3, 4] (fun p i => ∃ k : Nat, (k : Int) ≤ n.tmod 255 ∧ i = .int .i64 k ∧ p = .int .u8 (pw k : Nat)) (fun _ i => (n.tmod 255 - intOf i).toNat)
    case atStart => exact ⟨0, by omega, rfl, rfl⟩
    case round =>
      obtain ⟨k, hk, rfl, rfl⟩ := hrel
      have hp := pw_lt k
      by_cases hlt : (k : Int) < n.tmod 255
      · go_wp2_with (first | (go_at_call 106; (with_reducible refine (refMul_nat2 _ _ (by omega)).mono ?_); rintro e w' ⟨rfl, rfl⟩))
        go_round
        case rel => exact ⟨k + 1, by omega, by go_num, by simp [pw, dblN]⟩
        case measure => simp [intOf]; omega
      · go_wp2
        go_ret
        refine ⟨ret_int ?_, rfl⟩
        have := H.out
        rw [if_neg (by omega)] at this
        rw [this, show k = (n.tmod 255).toNat by omega]
end Go.Proofs.YtfjcbgfgiidogaaDoor
