/-
  rilllaw01: alive; the laws over numbers alone.
-/
import Derived.Test.YtlclalcdijphoaaGfB
import Derived.Test.YtlclalcdijphoaaUse
import Derived.Test.YtlclalcdijphoaaLaw
namespace Go.Proofs.Ytlclalcdijphoaa
open Go.RowKit

set_option maxHeartbeats 1000000 in
theorem alive1 (w : World) : Calls Try.prog 12 #[] w fun e w' => e = .returned (.bool true) ∧ Below w.heap.size w w' := by
  have h29 : mul 2 128 = 29 := by decide +kernel
  have h142 : inv 2 = 142 := by decide +kernel
  have r1 : BytesV ((((w.alloc (.cells #[.int .u8 1, .int .u8 2] 5)).alloc (.cells #[.int .u8 1, .int .u8 1] 5)).alloc (.cells #[.int .u8 1] 5)).alloc (.cells #[.slice (some ⟨w.heap.size + 1, 0, none⟩) 2 2, .slice (some ⟨w.heap.size + 1 + 1, 0, none⟩) 1 1] 33)) (some ⟨w.heap.size + 1, 0, none⟩, 2, 2) [1, 1] :=
    BytesV.alloc (BytesV.alloc (bytesV_lit _ _ _ _ _ _ (by simp) rfl rfl (bytes_of (by decide)) (by omega)))
  have r2 : BytesV ((((w.alloc (.cells #[.int .u8 1, .int .u8 2] 5)).alloc (.cells #[.int .u8 1, .int .u8 1] 5)).alloc (.cells #[.int .u8 1] 5)).alloc (.cells #[.slice (some ⟨w.heap.size + 1, 0, none⟩) 2 2, .slice (some ⟨w.heap.size + 1 + 1, 0, none⟩) 1 1] 33)) (some ⟨w.heap.size + 1 + 1, 0, none⟩, 1, 1) [1] :=
    BytesV.alloc (bytesV_lit _ _ _ _ _ _ (by simp) rfl rfl (bytes_of (by decide)) (by omega))
  go_enter Try.func12, Try.ntmps12
  go_wp2_with fail
  refine (inv_pos 2 w (by omega) (by omega)).mono ?_
  rintro e w' ⟨rfl, rfl⟩
  go_wp2_with fail
  refine (mul_any 2 128 w (by omega) (by omega) (by omega) (by omega)).mono ?_
  rintro e w' ⟨rfl, rfl⟩
  go_wp2_with fail
  refine (mix_any (some ⟨w.heap.size, 0, none⟩) 2 2 [1, 2] (some ⟨w.heap.size + 1 + 1 + 1, 0, none⟩) 2 2 [(some ⟨w.heap.size + 1, 0, none⟩, 2, 2), (some ⟨w.heap.size + 1 + 1, 0, none⟩, 1, 1)] [[1, 1], [1]] _
    (by exact RowV.alloc (RowV.alloc (RowV.alloc (rowV_lit w _ _ _ _ _ rfl rfl rfl)))) (by exact bytes_of (by decide)) (by omega) (by exact rowV_lit _ _ _ _ _ _ (by simp) rfl rfl) (by omega)
    (rowsV_cons r1 (rowsV_cons r2 (rowsV_nil _)))).mono ?_
  rintro e w2 ⟨rfl, hown, hb⟩
  have hL : longest [[1, 1], [1]] 2 = 2 := by decide
  have hM : mixTo [1, 2] [[1, 1], [1]] 2 2 = [3, 1] := by decide +kernel
  simp only [hL, hM] at hown ⊢
  have hbw := ((((below_alloc w (.cells #[.int .u8 1, .int .u8 2] 5)).trans ((below_alloc _ (.cells #[.int .u8 1, .int .u8 1] 5)).mono (by simp))).trans ((below_alloc _ (.cells #[.int .u8 1] 5)).mono (by simp; omega))).trans ((below_alloc _ _).mono (by simp; omega))).trans (hb.mono (by simp; omega))
  have hx : BytesV w2 (some ⟨w.heap.size + 1 + 1 + 1 + 1, 0, none⟩, 2, 2) [3, 1] := by
    have := bytesV_of_owns hown (bytes_of (by decide)) (by omega)
    simpa using this
  clear hL hM hown hb
  go_wp2_with fail
  refine (sameBytes_any _ _ _ [3, 1] _ _ _ [3, 1] _ (by exact hx.alloc) (by exact bytesV_lit _ _ _ _ _ _ (by simp) rfl rfl (bytes_of (by decide)) (by omega))).mono ?_
  rintro e w3 ⟨rfl, hb3⟩
  go_wp2
  go_ret
  exact ⟨rfl, hbw.trans (((below_alloc _ _).trans (hb3.mono (by simp))).mono hbw.size)⟩

theorem mul_nat (a b : Nat) (w : World) (ha : a < 256) (hb : b < 256) :
    Calls Try.prog 16 #[.int .u8 (a : Int), .int .u8 (b : Int)] w fun e w' => e = .returned (.int .u8 (mul a b : Nat)) ∧ w = w' :=
  mul_any a b w (by omega) (by omega) (by omega) (by omega)
theorem mul_nat1 (a : Nat) (w : World) (ha : a < 256) :
    Calls Try.prog 16 #[.int .u8 (a : Int), .int .u8 1] w fun e w' => e = .returned (.int .u8 (a : Nat)) ∧ w = w' := by
  have := mul_nat a 1 w ha (by omega)
  rw [mul_one ha] at this
  exact this
theorem inv_nat (a : Nat) (w : World) (a0 : 0 < a) (ha : a < 256) :
    Calls Try.prog 11 #[.int .u8 (a : Int)] w fun e w' => e = .returned (.tuple #[.int .u8 (inv a : Nat), .int .i64 0]) ∧ w = w' :=
  inv_pos a w (by omega) (by omega)
theorem inv_nat0 (a : Nat) (w : World) (a0 : a = 0) :
    Calls Try.prog 11 #[.int .u8 (a : Int)] w fun e w' => e = .returned (.tuple #[.int .u8 0, .int .i64 10]) ∧ w = w' := by
  subst a0; exact inv_zero w
theorem log_nat0 (a : Nat) (w : World) (a0 : a = 0) :
    Calls Try.prog 14 #[.int .u8 (a : Int)] w fun e w' => e = .returned (.tuple #[.int .i64 0, .int .i64 10]) ∧ w = w' := by
  subst a0; exact log_zero w
theorem log_nat (a : Nat) (w : World) (a0 : 0 < a) (ha : a < 256) :
    Calls Try.prog 14 #[.int .u8 (a : Int)] w fun e w' => e = .returned (.tuple #[.int .i64 (lg a : Nat), .int .i64 0]) ∧ w = w' :=
  log_pos a w (by omega) (by omega)

set_option maxHeartbeats 1000000 in
theorem gfField_walk (a' b' c' : Int) (w : World) (wa : (Lit.int .u8 a').wf = true) (wb : (Lit.int .u8 b').wf = true) (wc : (Lit.int .u8 c').wf = true) :
    Calls Try.prog 6 #[.int .u8 a', .int .u8 b', .int .u8 c'] w fun e w' => e = .returned (.bool true) ∧ Below w.heap.size w w' := by
  obtain ⟨a0, a1⟩ := wf_u8 wa
  obtain ⟨b0, b1⟩ := wf_u8 wb
  obtain ⟨c0, c1⟩ := wf_u8 wc
  clear wa wb wc
  obtain ⟨a, rfl⟩ := Int.eq_ofNat_of_zero_le a0
  obtain ⟨b, rfl⟩ := Int.eq_ofNat_of_zero_le b0
  obtain ⟨c, rfl⟩ := Int.eq_ofNat_of_zero_le c0
  have ha : a < 256 := by omega
  have hb : b < 256 := by omega
  have hc : c < 256 := by omega
  have hab := mul_lt (b := b) ha
  have hac := mul_lt (b := c) ha
  have hbc := mul_lt (b := c) hb
  have hxl := xor_lt hb hc
  have H1 := Lib.hid (mul_comm hb ha)
  have H2 := Lib.hid (mul_assoc ha hb hc)
  have H3 := Lib.hid (mul_xor ha hb hc)
  have e1 := u8_xor_nat b c hb hc
  have e2 := u8_xor_nat _ _ hab hac
  by_cases hz : a = 0
  · have ha0 : ((a : Int) == 0) = true := beq_iff_eq.2 (by omega)
    have HZ := Lib.hid hz
    clear hz
    go_enter Try.func6, Try.ntmps6
    go_wp2_with fail
    refine (alive1 w).mono ?_
    rintro e w1 ⟨rfl, hb1⟩
    go_wp2_with fail
    (with_reducible refine (mul_nat a b _ ha hb).mono ?_)
    rintro e w' ⟨rfl, rfl⟩
    go_wp2_with fail
    (with_reducible refine (mul_nat b a _ hb ha).mono ?_)
    rintro e w' ⟨rfl, rfl⟩
    rw [H1.out]
    go_wp2_with fail
    (with_reducible refine (mul_nat a b _ ha hb).mono ?_)
    rintro e w' ⟨rfl, rfl⟩
    go_wp2_with fail
    (with_reducible refine (mul_nat _ c _ hab hc).mono ?_)
    rintro e w' ⟨rfl, rfl⟩
    go_wp2_with fail
    (with_reducible refine (mul_nat b c _ hb hc).mono ?_)
    rintro e w' ⟨rfl, rfl⟩
    go_wp2_with fail
    (with_reducible refine (mul_nat a _ _ ha hbc).mono ?_)
    rintro e w' ⟨rfl, rfl⟩
    rw [H2.out]
    go_wp2_with fail
    (with_reducible refine (mul_nat a _ _ ha hxl).mono ?_)
    rintro e w' ⟨rfl, rfl⟩
    rw [H3.out]
    go_wp2_with fail
    (with_reducible refine (mul_nat a b _ ha hb).mono ?_)
    rintro e w' ⟨rfl, rfl⟩
    go_wp2_with fail
    (with_reducible refine (mul_nat a c _ ha hc).mono ?_)
    rintro e w' ⟨rfl, rfl⟩
    go_wp2_with fail
    (with_reducible refine (mul_nat1 a _ ha).mono ?_)
    rintro e w' ⟨rfl, rfl⟩
    go_wp2_with fail
    (with_reducible refine (inv_nat0 a _ HZ.out).mono ?_)
    rintro e w' ⟨rfl, rfl⟩
    go_wp2
    go_ret
    exact ⟨rfl, hb1⟩
  · have ha0 : ((a : Int) == 0) = false := beq_eq_false_iff_ne.2 (by omega)
    have hil := inv_lt a
    have h5 := mul_inv ha hz
    go_enter Try.func6, Try.ntmps6
    go_wp2_with fail
    refine (alive1 w).mono ?_
    rintro e w1 ⟨rfl, hb1⟩
    go_wp2_with fail
    (with_reducible refine (mul_nat a b _ ha hb).mono ?_)
    rintro e w' ⟨rfl, rfl⟩
    go_wp2_with fail
    (with_reducible refine (mul_nat b a _ hb ha).mono ?_)
    rintro e w' ⟨rfl, rfl⟩
    rw [H1.out]
    go_wp2_with fail
    (with_reducible refine (mul_nat a b _ ha hb).mono ?_)
    rintro e w' ⟨rfl, rfl⟩
    go_wp2_with fail
    (with_reducible refine (mul_nat _ c _ hab hc).mono ?_)
    rintro e w' ⟨rfl, rfl⟩
    go_wp2_with fail
    (with_reducible refine (mul_nat b c _ hb hc).mono ?_)
    rintro e w' ⟨rfl, rfl⟩
    go_wp2_with fail
    (with_reducible refine (mul_nat a _ _ ha hbc).mono ?_)
    rintro e w' ⟨rfl, rfl⟩
    rw [H2.out]
    go_wp2_with fail
    (with_reducible refine (mul_nat a _ _ ha hxl).mono ?_)
    rintro e w' ⟨rfl, rfl⟩
    rw [H3.out]
    go_wp2_with fail
    (with_reducible refine (mul_nat a b _ ha hb).mono ?_)
    rintro e w' ⟨rfl, rfl⟩
    go_wp2_with fail
    (with_reducible refine (mul_nat a c _ ha hc).mono ?_)
    rintro e w' ⟨rfl, rfl⟩
    go_wp2_with fail
    (with_reducible refine (mul_nat1 a _ ha).mono ?_)
    rintro e w' ⟨rfl, rfl⟩
    go_wp2_with fail
    (with_reducible refine (inv_nat a _ (by omega) ha).mono ?_)
    rintro e w' ⟨rfl, rfl⟩
    go_wp2_with fail
    (with_reducible refine (mul_nat a _ _ ha hil).mono ?_)
    rintro e w' ⟨rfl, rfl⟩
    go_wp2
    go_ret
    exact ⟨rfl, hb1⟩

end Go.Proofs.Ytlclalcdijphoaa
