/-
  tuple: the contracts of prime, primeFrom, primeUpTo, Params.
-/
import Derived.Test.YtlmnijcocfjpoaaDoorRows
import Derived.Test.YtlmnijcocfjpoaaDoorTuM
import Derived.WalkKit
import Derived.WalkSpells
import Derived.WalkLawsBesides
import Derived.Lib.Hide
namespace Go.Proofs.YtlmnijcocfjpoaaDoor
open Go.RowKit

theorem ret_int {k : IntKind} {a b : Int} (h : a = b) : Ending.returned (.int k a) = .returned (.int k b) := by rw [h]
theorem ret_bool {a b : Bool} (h : a = b) : Ending.returned (.bool a) = .returned (.bool b) := by rw [h]

set_option maxRecDepth 10000 in
set_option maxHeartbeats 400000 in
theorem prime_any (n : Nat) (w : World) (hn : n < 64) :
    Calls Tryd.prog 20 #[.int .i64 (n : Int)] w fun e w' => e = .returned (.bool (pr n)) ∧ w = w' := by
  go_enter Tryd.func20, Tryd.ntmps20
  go_wp2
  go_loop [3] (fun i => ∃ d : Nat, 2 ≤ d ∧ d ≤ 9 ∧ i = .int .i64 d ∧ ∀ e, 2 ≤ e → e < d → n % e ≠ 0) (fun i => (9 - intOf i).toNat)
  case atStart => exact ⟨2, by omega, by omega, rfl, fun e h1 h2 => by omega⟩
  case round =>
    obtain ⟨d, hd2, hd, rfl, hno⟩ := hrel
    have HN := Lib.hid hno
    clear hno
    have e1 : ((d : Int) * (d : Int)) = ((d * d : Nat) : Int) := by simp
    obtain ⟨q, hq⟩ : ∃ q, q = d * d := ⟨_, rfl⟩
    have hq1 : q ≤ 81 := by rw [hq]; exact Nat.mul_le_mul hd hd
    rw [← hq] at e1
    have HQ := Lib.hid hq
    clear hq
    by_cases hdd : q ≤ n
    · have hd8 : d ≤ 8 := by
        by_cases h9 : d = 9
        · subst h9; have := HQ.out; omega
        · omega
      by_cases hm : n % d = 0
      · have ht : (((n : Int) % (d : Int)) == 0) = true := by rw [beq_iff_eq]; omega
        have HM := Lib.hid hm
        clear hm
        go_wp2
        go_ret
        exact ⟨ret_bool (pr_div hd2 (by have := HQ.out; omega) HM.out).symm, rfl⟩
      · have ht : (((n : Int) % (d : Int)) == 0) = false := by rw [beq_eq_false_iff_ne]; omega
        have HM := Lib.hid hm
        clear hm
        go_wp2
        go_round
        case rel =>
          refine ⟨d + 1, by omega, by omega, by go_num, fun e h1 h2 => ?_⟩
          by_cases h : e = d
          · subst h; exact HM.out
          · exact HN.out e h1 (by omega)
        case measure => simp [intOf]; omega
    · go_wp2
      go_ret
      refine ⟨ret_bool ?_, rfl⟩
      rw [pr_exit hn (by omega) hd2 (by have := HQ.out; omega) HN.out]
      simp
      omega

set_option maxRecDepth 10000 in
set_option maxHeartbeats 400000 in
theorem primeFrom_any (n : Nat) (w : World) (hn : n < 60) :
    Calls Tryd.prog 17 #[.int .i64 (n : Int)] w fun e w' => e = .returned (.int .i64 (pfrom n : Nat)) ∧ w = w' := by
  obtain ⟨h1, h2, h3, h4⟩ := pfrom_facts hn
  have H3 := Lib.hid h3
  have H4 := Lib.hid h4
  clear h3 h4
  go_enter Tryd.func17, Tryd.ntmps17
  go_wp2
  go_loop [0] (fun i => ∃ m : Nat, n ≤ m ∧ m ≤ pfrom n ∧ i = .int .i64 m) (fun i => (pfrom n - intOf i).toNat)
  case atStart => exact ⟨n, by omega, h1, rfl⟩
  case round =>
    obtain ⟨m, hm1, hm2, rfl⟩ := hrel
    by_cases hlt : m < pfrom n
    · have hp := H4.out m hm1 hlt
      go_wp2_with (first | (go_at_call 20; (with_reducible refine (prime_any _ _ (by omega)).mono ?_); rintro e w' ⟨rfl, rfl⟩))
      go_round
      case rel => exact ⟨m + 1, by omega, by omega, by go_num⟩
      case measure => simp [intOf]; omega
    · obtain rfl : m = pfrom n := by omega
      have hp := H3.out
      go_wp2_with (first | (go_at_call 20; (with_reducible refine (prime_any _ _ (by omega)).mono ?_); rintro e w' ⟨rfl, rfl⟩))
      go_ret
      exact ⟨rfl, rfl⟩

set_option maxRecDepth 10000 in
set_option maxHeartbeats 400000 in
theorem primeUpTo_any (n : Nat) (w : World) (h0 : 2 ≤ n) (hn : n < 60) :
    Calls Tryd.prog 18 #[.int .i64 (n : Int)] w fun e w' => e = .returned (.int .i64 (pup n : Nat)) ∧ w = w' := by
  obtain ⟨h1, h2, h3, h4⟩ := pup_facts h0 hn
  have H3 := Lib.hid h3
  have H4 := Lib.hid h4
  clear h3 h4
  go_enter Tryd.func18, Tryd.ntmps18
  go_wp2
  go_loop [0] (fun i => ∃ m : Nat, m ≤ n ∧ pup n ≤ m ∧ i = .int .i64 m) (fun i => (intOf i).toNat)
  case atStart => exact ⟨n, by omega, h1, rfl⟩
  case round =>
    obtain ⟨m, hm1, hm2, rfl⟩ := hrel
    by_cases hlt : pup n < m
    · have hp := H4.out m hlt hm1
      go_wp2_with (first | (go_at_call 20; (with_reducible refine (prime_any _ _ (by omega)).mono ?_); rintro e w' ⟨rfl, rfl⟩))
      go_round
      case rel => exact ⟨m - 1, by omega, by omega, by first | go_num | (congr 1; omega)⟩
      case measure => simp [intOf]; omega
    · obtain rfl : m = pup n := by omega
      have hp := H3.out
      go_wp2_with (first | (go_at_call 20; (with_reducible refine (prime_any _ _ (by omega)).mono ?_); rintro e w' ⟨rfl, rfl⟩))
      go_ret
      exact ⟨rfl, rfl⟩

theorem primeFrom_int (x : Int) (n r : Nat) (hx : x = n) (hr : pfrom n = r) (w : World) (hn : n < 60) :
    Calls Tryd.prog 17 #[.int .i64 x] w fun e w' => e = .returned (.int .i64 (r : Nat)) ∧ w = w' := by
  subst hx hr; exact primeFrom_any n w hn
theorem primeUpTo_int (x : Int) (n r : Nat) (hx : x = n) (hr : pup n = r) (w : World) (h0 : 2 ≤ n) (hn : n < 60) :
    Calls Tryd.prog 18 #[.int .i64 x] w fun e w' => e = .returned (.int .i64 (r : Nat)) ∧ w = w' := by
  subst hx hr; exact primeUpTo_any n w h0 hn

def codeV (k : Nat) : Value := .agg #[.int .i64 (k : Nat), .int .i64 (cKp k : Nat), .int .i64 (cS k : Nat), .int .i64 4, .int .i64 (cL k : Nat), .int .i64 (cW k : Nat), .int .i64 (cP k : Nat), .int .i64 (cP1 k : Nat), .int .i64 (cB k : Nat), .int .i64 (cJ k : Nat)]
def codeZ : Value := .agg #[.int .i64 0, .int .i64 0, .int .i64 0, .int .i64 0, .int .i64 0, .int .i64 0, .int .i64 0, .int .i64 0, .int .i64 0, .int .i64 0]

set_option maxRecDepth 10000 in
set_option maxHeartbeats 1000000 in
theorem params_any (k : Nat) (w : World) (h1 : 1 ≤ k) (hk : k ≤ 32) :
    Calls Tryd.prog 9 #[.int .i64 (k : Int)] w fun e w' => e = .returned (.tuple #[codeV k, .int .i64 0]) ∧ Below w.heap.size w w' := by
  obtain ⟨f1, f2, f3, f4, f5, f6, f7, f8, f9, f10, f11, f12, f13, f14⟩ := code_facts h1 hk
  have eKp : ((k : Int) + 3) / 4 * 4 = ((cKp k : Nat) : Int) := by unfold cKp; omega
  have H14 := Lib.hid f14
  clear f14
  have hB : ((cB k : Nat) : Int) = ((cW k : Nat) : Int) - ((cS k : Nat) : Int) := by unfold cB; omega
  have HB := Lib.hid hB
  clear hB
  have hL : ((cL k : Nat) : Int) = ((cKp k : Nat) : Int) + ((cS k : Nat) : Int) + 4 := by unfold cL; omega
  have HL := Lib.hid hL
  clear hL
  obtain ⟨t, ht, hj⟩ : ∃ t : Bool, (((cKp k : Nat) : Int) == 4) = t ∧ cJ k = if t then 2 else 0 := by
    refine ⟨_, rfl, ?_⟩
    unfold cJ
    by_cases h : cKp k = 4
    · simp [h]
    · have : (((cKp k : Nat) : Int) == 4) = false := beq_eq_false_iff_ne.2 (by omega)
      simp [this, h]
  have HJ := Lib.hid hj
  clear hj
  go_enter Tryd.func9, Tryd.ntmps9
  go_wp2_with fail
  (with_reducible refine (primeFrom_int _ (2 + cKp k / 4) (cS k) (by omega) rfl _ (by omega)).mono ?_)
  rintro e w' ⟨rfl, rfl⟩
  go_wp2_with fail
  (with_reducible refine (primeUpTo_int _ (cKp k + cS k) (cW k) (by omega) rfl _ (by omega) (by omega)).mono ?_)
  rintro e w' ⟨rfl, rfl⟩
  go_wp2_with fail
  (with_reducible refine (primeFrom_int _ (cP k) (cP1 k) (by have := H14.out; have := HL.out; omega) rfl _ (by omega)).mono ?_)
  rintro e w' ⟨rfl, rfl⟩
  cases t
  · go_wp2
    refine bodyPost_ret (v := .tuple #[.agg #[.int .i64 (k : Nat), .int .i64 (cKp k : Nat), .int .i64 (cS k : Nat), .int .i64 4, .int .i64 (((cKp k : Nat) : Int) + ((cS k : Nat) : Int) + 4), .int .i64 (cW k : Nat), .int .i64 (((cKp k : Nat) : Int) + ((cS k : Nat) : Int) + 4 - ((cW k : Nat) : Int)), .int .i64 (cP1 k : Nat), .int .i64 (((cW k : Nat) : Int) - ((cS k : Nat) : Int)), .int .i64 0], .int .i64 0]) (by simp [results, Tryd.results9, go_sem]) rfl ⟨?_, (((Below.refl _ _).alloc (Nat.le_refl _) _).alloc (by simp) _)⟩
    have e1 := HL.out
    have e2 := HB.out
    have e3 : ((cP k : Nat) : Int) = ((cKp k : Nat) : Int) + ((cS k : Nat) : Int) + 4 - ((cW k : Nat) : Int) := by have := H14.out; omega
    have e4 : ((cJ k : Nat) : Int) = 0 := by rw [HJ.out]; rfl
    unfold codeV
    rw [e1, e2, e3, e4]
  · go_wp2
    refine bodyPost_ret (v := .tuple #[.agg #[.int .i64 (k : Nat), .int .i64 (cKp k : Nat), .int .i64 (cS k : Nat), .int .i64 4, .int .i64 (((cKp k : Nat) : Int) + ((cS k : Nat) : Int) + 4), .int .i64 (cW k : Nat), .int .i64 (((cKp k : Nat) : Int) + ((cS k : Nat) : Int) + 4 - ((cW k : Nat) : Int)), .int .i64 (cP1 k : Nat), .int .i64 (((cW k : Nat) : Int) - ((cS k : Nat) : Int)), .int .i64 2], .int .i64 0]) (by simp [results, Tryd.results9, go_sem]) rfl ⟨?_, (((Below.refl _ _).alloc (Nat.le_refl _) _).alloc (by simp) _)⟩
    have e1 := HL.out
    have e2 := HB.out
    have e3 : ((cP k : Nat) : Int) = ((cKp k : Nat) : Int) + ((cS k : Nat) : Int) + 4 - ((cW k : Nat) : Int) := by have := H14.out; omega
    have e4 : ((cJ k : Nat) : Int) = 2 := by rw [HJ.out]; rfl
    unfold codeV
    rw [e1, e2, e3, e4]

set_option maxRecDepth 10000 in
set_option maxHeartbeats 1000000 in
theorem params_bad (k : Int) (w : World) (h : k < 1 ∨ 32 < k) :
    Calls Tryd.prog 9 #[.int .i64 k] w fun e w' => e = .returned (.tuple #[codeZ, .int .i64 30]) ∧ Below w.heap.size w w' := by
  by_cases h1 : k < 1
  · go_enter Tryd.func9, Tryd.ntmps9
    go_wp2
    exact bodyPost_ret (v := .tuple #[codeZ, .int .i64 30]) (by simp [results, Tryd.results9, go_sem, codeZ]) rfl ⟨rfl, (Below.refl _ _).alloc (Nat.le_refl _) _⟩
  · have h2 : 32 < k := by omega
    clear h
    go_enter Tryd.func9, Tryd.ntmps9
    go_wp2
    exact bodyPost_ret (v := .tuple #[codeZ, .int .i64 30]) (by simp [results, Tryd.results9, go_sem, codeZ]) rfl ⟨rfl, (Below.refl _ _).alloc (Nat.le_refl _) _⟩

end Go.Proofs.YtlmnijcocfjpoaaDoor
