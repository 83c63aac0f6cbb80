/-
  rilllaw01: GfProducts, GfPowers, GfInverts, GfNames.
-/
import Derived.Test.YtlclalcdijphoaaGfC
import Derived.Test.YtlclalcdijphoaaGfR
namespace Go.Proofs.Ytlclalcdijphoaa
open Go.RowKit

set_option maxRecDepth 10000 in
set_option maxHeartbeats 1000000 in
theorem gfProducts_walk (a' b' n : Int) (w : World) (wa : (Lit.int .u8 a').wf = true) (wb : (Lit.int .u8 b').wf = true) (_wn : (Lit.int .i64 n).wf = true) :
    Calls Try.prog 4 #[.int .u8 a', .int .u8 b', .int .i64 n] w fun e w' => e = .returned (.bool true) ∧ Below w.heap.size w w' := by
  obtain ⟨a0, a1⟩ := wf_u8 wa
  obtain ⟨b0, b1⟩ := wf_u8 wb
  clear wa wb
  obtain ⟨a, rfl⟩ := Int.eq_ofNat_of_zero_le a0
  obtain ⟨b, rfl⟩ := Int.eq_ofNat_of_zero_le b0
  have ha : a < 256 := by omega
  have hb : b < 256 := by omega
  by_cases hz : a = 0
  · have HZ := Lib.hid hz
    clear hz
    go_enter Try.func4, Try.ntmps4
    go_wp2_with fail
    refine (alive1 w).mono ?_
    rintro e w1 ⟨rfl, hb1⟩
    go_wp2_with fail
    (with_reducible refine (inv_nat0 a _ HZ.out).mono ?_)
    rintro e w' ⟨rfl, rfl⟩
    go_wp2_with fail
    (with_reducible refine (refInv_zero a HZ.out _).mono ?_)
    rintro e w' ⟨rfl, rfl⟩
    go_wp2_with fail
    (with_reducible refine (log_nat0 a _ HZ.out).mono ?_)
    rintro e w' ⟨rfl, rfl⟩
    go_wp2_with fail
    (with_reducible refine (refLog_zero a HZ.out _).mono ?_)
    rintro e w' ⟨rfl, rfl⟩
    go_wp2_with fail
    (with_reducible refine (mul_nat a b _ ha hb).mono ?_)
    rintro e w' ⟨rfl, rfl⟩
    go_wp2_with fail
    (with_reducible refine (refMul_nat a b _ ha hb).mono ?_)
    rintro e w' ⟨rfl, rfl⟩
    go_wp2_with fail
    (with_reducible refine (exp_any n _).mono ?_)
    rintro e w' ⟨rfl, rfl⟩
    go_wp2_with fail
    (with_reducible refine (refExp_any n _).mono ?_)
    rintro e w' ⟨rfl, rfl⟩
    go_wp2
    go_ret
    exact ⟨rfl, hb1⟩
  · have hap : 0 < a := by omega
    clear hz
    go_enter Try.func4, Try.ntmps4
    go_wp2_with fail
    refine (alive1 w).mono ?_
    rintro e w1 ⟨rfl, hb1⟩
    go_wp2_with fail
    (with_reducible refine (inv_nat a _ hap ha).mono ?_)
    rintro e w' ⟨rfl, rfl⟩
    go_wp2_with fail
    (with_reducible refine (refInv_pos a _ hap ha).mono ?_)
    rintro e w' ⟨rfl, rfl⟩
    go_wp2_with fail
    (with_reducible refine (log_nat a _ hap ha).mono ?_)
    rintro e w' ⟨rfl, rfl⟩
    go_wp2_with fail
    (with_reducible refine (refLog_pos a _ hap ha).mono ?_)
    rintro e w' ⟨rfl, rfl⟩
    go_wp2_with fail
    (with_reducible refine (mul_nat a b _ ha hb).mono ?_)
    rintro e w' ⟨rfl, rfl⟩
    go_wp2_with fail
    (with_reducible refine (refMul_nat a b _ ha hb).mono ?_)
    rintro e w' ⟨rfl, rfl⟩
    go_wp2_with fail
    (with_reducible refine (exp_any n _).mono ?_)
    rintro e w' ⟨rfl, rfl⟩
    go_wp2_with fail
    (with_reducible refine (refExp_any n _).mono ?_)
    rintro e w' ⟨rfl, rfl⟩
    go_wp2
    go_ret
    exact ⟨rfl, hb1⟩

set_option maxRecDepth 10000 in
set_option maxHeartbeats 1000000 in
theorem gfInverts_walk (a' b' : Int) (w : World) (wa : (Lit.int .u8 a').wf = true) (wb : (Lit.int .u8 b').wf = true) :
    Calls Try.prog 10 #[.int .u8 a', .int .u8 b'] w fun e w' => e = .returned (.bool true) ∧ Below w.heap.size w w' := by
  obtain ⟨a0, a1⟩ := wf_u8 wa
  obtain ⟨b0, b1⟩ := wf_u8 wb
  clear wa wb
  obtain ⟨a, rfl⟩ := Int.eq_ofNat_of_zero_le a0
  obtain ⟨b, rfl⟩ := Int.eq_ofNat_of_zero_le b0
  have ha : a < 256 := by omega
  have hb : b < 256 := by omega
  by_cases hz : a = 0 ∨ b = 0
  · have hm : mul a b = 0 := by rcases hz with rfl | rfl; exact zero_mul _; exact mul_zero _
    by_cases h0 : a = 0
    · have hz1 : ((a : Int) == 0) = true := beq_iff_eq.2 (by omega)
      clear h0 hz
      go_enter Try.func10, Try.ntmps10
      go_wp2_with fail
      refine (alive1 w).mono ?_
      rintro e w1 ⟨rfl, hb1⟩
      go_wp2_with fail
      (with_reducible refine (mul_nat a b _ ha hb).mono ?_)
      rintro e w' ⟨rfl, rfl⟩
      go_wp2
      go_ret
      exact ⟨rfl, hb1⟩
    · have hz1 : ((a : Int) == 0) = false := beq_eq_false_iff_ne.2 (by omega)
      have hz2 : ((b : Int) == 0) = true := beq_iff_eq.2 (by omega)
      clear h0 hz
      go_enter Try.func10, Try.ntmps10
      go_wp2_with fail
      refine (alive1 w).mono ?_
      rintro e w1 ⟨rfl, hb1⟩
      go_wp2_with fail
      (with_reducible refine (mul_nat a b _ ha hb).mono ?_)
      rintro e w' ⟨rfl, rfl⟩
      go_wp2
      go_ret
      exact ⟨rfl, hb1⟩
  · have hap : 0 < a := by omega
    have hbp : 0 < b := by omega
    have hz1 : ((a : Int) == 0) = false := beq_eq_false_iff_ne.2 (by omega)
    have hz2 : ((b : Int) == 0) = false := beq_eq_false_iff_ne.2 (by omega)
    have hab := mul_lt (b := b) ha
    have hab0 := mul_ne ha hb (by omega) (by omega)
    have i1 := inv_lt a
    have i1p := inv_ne a
    have i2 := inv_lt b
    have l1 := lg_lt ha (by omega)
    have l2 := lg_lt hb (by omega)
    have H1 := Lib.hid (inv_mul ha hb (by omega) (by omega))
    have H2 := Lib.hid (inv_inv ha (by omega))
    have H3 := Lib.hid (lg_mul ha hb (by omega) (by omega))
    clear hz
    go_enter Try.func10, Try.ntmps10
    go_wp2_with fail
    refine (alive1 w).mono ?_
    rintro e w1 ⟨rfl, hb1⟩
    go_wp2_with fail
    (with_reducible refine (inv_nat a _ hap ha).mono ?_)
    rintro e w' ⟨rfl, rfl⟩
    go_wp2_with fail
    (with_reducible refine (inv_nat b _ hbp hb).mono ?_)
    rintro e w' ⟨rfl, rfl⟩
    go_wp2_with fail
    (with_reducible refine (mul_nat a b _ ha hb).mono ?_)
    rintro e w' ⟨rfl, rfl⟩
    go_wp2_with fail
    (with_reducible refine (inv_nat _ _ (by omega) hab).mono ?_)
    rintro e w' ⟨rfl, rfl⟩
    go_wp2_with fail
    (with_reducible refine (inv_nat _ _ (by omega) i1).mono ?_)
    rintro e w' ⟨rfl, rfl⟩
    rw [H2.out]
    go_wp2_with fail
    (with_reducible refine (mul_nat _ _ _ i1 i2).mono ?_)
    rintro e w' ⟨rfl, rfl⟩
    rw [H1.out]
    go_wp2_with fail
    (with_reducible refine (log_nat a _ hap ha).mono ?_)
    rintro e w' ⟨rfl, rfl⟩
    go_wp2_with fail
    (with_reducible refine (log_nat b _ hbp hb).mono ?_)
    rintro e w' ⟨rfl, rfl⟩
    go_wp2_with fail
    (with_reducible refine (mul_nat a b _ ha hb).mono ?_)
    rintro e w' ⟨rfl, rfl⟩
    go_wp2_with fail
    (with_reducible refine (log_nat _ _ (by omega) hab).mono ?_)
    rintro e w' ⟨rfl, rfl⟩
    rw [H3.out]
    have heq : ((((lg a : Nat) : Int) + ((lg b : Nat) : Int)) % 255 == (((lg a + lg b) % 255 : Nat) : Int)) = true := beq_iff_eq.2 (by omega)
    go_wp2
    go_ret
    exact ⟨rfl, hb1⟩

theorem diff_mod (n m : Int) : (pw (n % 255).toNat = pw (m % 255).toNat) ↔ (n - m) % 255 = 0 := by
  constructor
  · intro h
    have := pw_inj (n := (n % 255).toNat) (m := (m % 255).toNat) (by omega) (by omega) h
    omega
  · intro h
    congr 1
    omega
theorem tmod_zero (n : Int) : n.tmod 255 = 0 ↔ n % 255 = 0 := by
  have := tmod_mod n
  have h1 := tmod_lo n
  have h2 := tmod_hi n
  split at this <;> omega

set_option maxRecDepth 10000 in
set_option maxHeartbeats 1000000 in
theorem gfPowers_walk (n m : Int) (w : World) (_wn : (Lit.int .i64 n).wf = true) (_wm : (Lit.int .i64 m).wf = true) :
    Calls Try.prog 7 #[.int .i64 n, .int .i64 m] w fun e w' => e = .returned (.bool true) ∧ Below w.heap.size w w' := by
  have n1 := tmod_lo n
  have n2 := tmod_hi n
  have m1 := tmod_lo m
  have m2 := tmod_hi m
  obtain ⟨p, hp⟩ : ∃ p, p = n.tmod 255 := ⟨_, rfl⟩
  obtain ⟨q, hq⟩ : ∃ q, q = m.tmod 255 := ⟨_, rfl⟩
  rw [← hp] at n1 n2
  rw [← hq] at m1 m2
  have hp' := hp.symm
  have hq' := hq.symm
  clear hp hq
  obtain ⟨A, hA⟩ : ∃ A : Nat, A = (p % 255).toNat := ⟨_, rfl⟩
  obtain ⟨B, hB⟩ : ∃ B : Nat, B = (q % 255).toNat := ⟨_, rfl⟩
  have hA1 : A < 255 := by omega
  have hB1 : B < 255 := by omega
  have pA := pw_lt A
  have pB := pw_lt B
  have pA0 := pw_ne A
  have HS : Hid (pw ((p + q) % 255).toNat = mul (pw A) (pw B)) := Lib.hid (by rw [pw_add, pw_mod (A + B)]; congr 1; omega)
  have HL := Lib.hid (lg_pw hA1)
  obtain ⟨t, ht1, ht2⟩ : ∃ t : Bool, (((pw A : Nat) : Int) == ((pw B : Nat) : Int)) = t ∧ ((p - q).tmod 255 == 0) = t := by
    refine ⟨_, rfl, ?_⟩
    have h1 := diff_mod p q
    have h2 := tmod_zero (p - q)
    rw [← hA, ← hB] at h1
    rw [Bool.eq_iff_iff, beq_iff_eq, beq_iff_eq, h2, ← h1]
    omega
  have HA := Lib.hid hA
  have HB := Lib.hid hB
  clear hA hB
  by_cases hneg : p < 0
  all_goals
    have HK : Hid (((A : Nat) : Int) = if p < 0 then p + 255 else p) := Lib.hid (by have := HA.out; split <;> omega)
    have hk := HK.out
    first | rw [if_pos hneg] at hk | rw [if_neg hneg] at hk
    have hkb := beq_iff_eq.2 hk
    clear hk HK
    go_enter Try.func7, Try.ntmps7
    go_wp2_with fail
    refine (alive1 w).mono ?_
    rintro e w1 ⟨rfl, hb1⟩
    go_wp2_with fail
    (with_reducible refine (exp_any _ _).mono ?_)
    rintro e w' ⟨rfl, rfl⟩
    rw [HS.out]
    go_wp2_with fail
    (with_reducible refine (exp_any _ _).mono ?_)
    rintro e w' ⟨rfl, rfl⟩
    rw [← HA.out]
    go_wp2_with fail
    (with_reducible refine (exp_any _ _).mono ?_)
    rintro e w' ⟨rfl, rfl⟩
    rw [← HB.out]
    go_wp2_with fail
    (with_reducible refine (mul_nat _ _ _ pA pB).mono ?_)
    rintro e w' ⟨rfl, rfl⟩
    go_wp2_with fail
    (with_reducible refine (exp_any _ _).mono ?_)
    rintro e w' ⟨rfl, rfl⟩
    rw [← HA.out]
    go_wp2_with fail
    (with_reducible refine (log_nat _ _ (by omega) pA).mono ?_)
    rintro e w' ⟨rfl, rfl⟩
    rw [HL.out]
    go_wp2_with fail
    (with_reducible refine (exp_any _ _).mono ?_)
    rintro e w' ⟨rfl, rfl⟩
    rw [← HA.out]
    go_wp2_with fail
    (with_reducible refine (exp_any _ _).mono ?_)
    rintro e w' ⟨rfl, rfl⟩
    rw [← HB.out]
    cases t
    all_goals
      go_wp2
      go_ret
      exact ⟨rfl, hb1⟩

end Go.Proofs.Ytlclalcdijphoaa
