/-
  Tu1: TuM TuA TuC TuD TuE TuF
-/
import Derived.Test.YtfjcbgfgiidogaaDoorRows
import Derived.WalkKit
import Derived.WalkSpells
import Derived.WalkLawsBesides
import Derived.Lib.Hide
import Derived.Laws.PanicsMore
import Derived.Laws.Rows
import Derived.OpenShut
import Derived.FnData
import Derived.Deep.RegionHeld3
namespace Go.Proofs.YtfjcbgfgiidogaaDoor

theorem bltI {a b : Nat} : Nat.blt a b = true ↔ a < b := by rw [Nat.blt_eq]
theorem bleI {a b : Nat} : Nat.ble a b = true ↔ a ≤ b := by rw [Nat.ble_eq]

def pr (n : Nat) : Bool := Nat.blt 1 n && (List.range n).all fun e => Nat.blt e 2 || !Nat.beq (n % e) 0
def pfF : Nat → Nat → Nat
  | 0, n => n
  | f + 1, n => if pr n then n else pfF f (n + 1)
def pfrom (n : Nat) : Nat := pfF 64 n
def puF : Nat → Nat → Nat
  | 0, n => n
  | f + 1, n => if pr n then n else puF f (n - 1)
def pup (n : Nat) : Nat := puF 64 n

theorem allR {p : Nat → Bool} {n : Nat} (h : (List.range n).all p = true) (k : Nat) (hk : k < n) : p k = true := List.all_eq_true.1 h k (by simpa using hk)

/-- no divisor below d, and d * d is more: just whether n is more than 1. -/
theorem pr_exit {n d : Nat} (hn : n < 64) (hd : d < 10) (h2 : 2 ≤ d) (hdd : n < d * d) (h : ∀ e, 2 ≤ e → e < d → n % e ≠ 0) : pr n = decide (1 < n) := by
  have key : (List.range 64).all (fun n => (List.range 10).all fun d => !Nat.blt n (d * d) || Nat.blt d 2 || (List.range d).any (fun e => !Nat.blt e 2 && Nat.beq (n % e) 0) || (pr n == Nat.blt 1 n)) = true := by decide +kernel
  have k1 := allR (allR key n hn) d hd
  simp only [Bool.or_eq_true, Bool.not_eq_true'] at k1
  rcases k1 with ((k1 | k1) | k1) | k1
  · exact absurd (bltI.2 hdd) (by rw [k1]; decide)
  · have : d < 2 := bltI.1 k1; omega
  · obtain ⟨e, he, h1⟩ := List.any_eq_true.1 k1
    simp only [Bool.and_eq_true, Bool.not_eq_true'] at h1
    have e2 : ¬ e < 2 := by intro h; have := bltI.2 h; rw [h1.1] at this; cases this
    exact absurd (Nat.eq_of_beq_eq_true h1.2) (h e (by omega) (by simpa using he))
  · rw [eq_of_beq k1]
    by_cases h1 : 1 < n
    · rw [bltI.2 h1, decide_eq_true h1]
    · rw [decide_eq_false h1]
      cases hb : Nat.blt 1 n with
      | false => rfl
      | true => exact absurd (bltI.1 hb) h1
/-- a divisor. -/
theorem pr_div {n d : Nat} (h2 : 2 ≤ d) (hd : d * d ≤ n) (h : n % d = 0) : pr n = false := by
  have hlt : d < n := by
    have : d * 2 ≤ d * d := Nat.mul_le_mul_left d h2
    omega
  cases hp : pr n with
  | false => rfl
  | true =>
    simp only [pr, Bool.and_eq_true] at hp
    have := allR hp.2 d hlt
    simp only [Bool.or_eq_true] at this
    rcases this with h1 | h1
    · have := bltI.1 h1; omega
    · rw [h] at h1; cases h1

theorem pfrom_facts {n : Nat} (hn : n < 60) : n ≤ pfrom n ∧ pfrom n < 64 ∧ pr (pfrom n) = true ∧ ∀ m, n ≤ m → m < pfrom n → pr m = false := by
  have key : (List.range 60).all (fun n => Nat.ble n (pfrom n) && Nat.blt (pfrom n) 64 && pr (pfrom n) && (List.range 64).all fun m => Nat.blt m n || !Nat.blt m (pfrom n) || !pr m) = true := by decide +kernel
  have k1 := allR key n hn
  simp only [Bool.and_eq_true] at k1
  refine ⟨Nat.le_of_ble_eq_true k1.1.1.1, bltI.1 k1.1.1.2, k1.1.2, fun m h1 h2 => ?_⟩
  have h64 : pfrom n < 64 := bltI.1 k1.1.1.2
  have k2 := allR k1.2 m (by omega)
  simp only [Bool.or_eq_true, Bool.not_eq_true'] at k2
  rcases k2 with (k2 | k2) | k2
  · have := bltI.1 k2; omega
  · rw [bltI.2 h2] at k2; cases k2
  · exact k2
theorem pup_facts {n : Nat} (h2 : 2 ≤ n) (hn : n < 60) : pup n ≤ n ∧ 2 ≤ pup n ∧ pr (pup n) = true ∧ ∀ m, pup n < m → m ≤ n → pr m = false := by
  have key : (List.range 60).all (fun n => Nat.blt n 2 || (Nat.ble (pup n) n && Nat.ble 2 (pup n) && pr (pup n) && (List.range 64).all fun m => !Nat.ble m n || !Nat.blt (pup n) m || !pr m)) = true := by decide +kernel
  have k1 := allR key n hn
  simp only [Bool.or_eq_true, Bool.and_eq_true] at k1
  rcases k1 with k1 | k1
  · have := bltI.1 k1; omega
  refine ⟨Nat.le_of_ble_eq_true k1.1.1.1, Nat.le_of_ble_eq_true k1.1.1.2, k1.1.2, fun m h1 h3 => ?_⟩
  have k2 := allR k1.2 m (by omega)
  simp only [Bool.or_eq_true, Bool.not_eq_true'] at k2
  rcases k2 with (k2 | k2) | k2
  · rw [bleI.2 h3] at k2; cases k2
  · rw [bltI.2 h1] at k2; cases k2
  · exact k2

/-- the code's numbers -/
def cKp (k : Nat) : Nat := (k + 3) / 4 * 4
def cS (k : Nat) : Nat := pfrom (2 + cKp k / 4)
def cL (k : Nat) : Nat := cKp k + cS k + 4
def cW (k : Nat) : Nat := pup (cKp k + cS k)
def cP (k : Nat) : Nat := cL k - cW k
def cP1 (k : Nat) : Nat := pfrom (cP k)
def cB (k : Nat) : Nat := cW k - cS k
def cJ (k : Nat) : Nat := if cKp k = 4 then 2 else 0
theorem code_facts {k : Nat} (h1 : 1 ≤ k) (hk : k ≤ 32) : 4 ≤ cKp k ∧ cKp k ≤ 32 ∧ cKp k < k + 4 ∧ k ≤ cKp k ∧ 3 ≤ cS k ∧ cS k ≤ 11 ∧ cW k ≤ cKp k + cS k ∧ 7 ≤ cW k ∧ cS k < cW k ∧ 4 ≤ cP k ∧ cP k ≤ 20 ∧ cP k ≤ cP1 k ∧ cP1 k ≤ 23 ∧ cP k + cW k = cL k := by
  have key : (List.range 33).all (fun k => Nat.blt k 1 || (Nat.ble 4 (cKp k) && Nat.ble (cKp k) 32 && Nat.blt (cKp k) (k + 4) && Nat.ble k (cKp k) && Nat.ble 3 (cS k) && Nat.ble (cS k) 11 && Nat.ble (cW k) (cKp k + cS k) && Nat.ble 7 (cW k) && Nat.blt (cS k) (cW k) && Nat.ble 4 (cP k) && Nat.ble (cP k) 20 && Nat.ble (cP k) (cP1 k) && Nat.ble (cP1 k) 23 && Nat.beq (cP k + cW k) (cL k))) = true := by decide +kernel
  have k1 := allR key k (by omega)
  simp only [Bool.or_eq_true, Bool.and_eq_true] at k1
  rcases k1 with k1 | ⟨⟨⟨⟨⟨⟨⟨⟨⟨⟨⟨⟨⟨a, b⟩, c⟩, d⟩, e⟩, f⟩, g⟩, h⟩, i⟩, j⟩, l⟩, m⟩, n⟩, o⟩
  · have := bltI.1 k1; omega
  exact ⟨Nat.le_of_ble_eq_true a, Nat.le_of_ble_eq_true b, bltI.1 c, Nat.le_of_ble_eq_true d, Nat.le_of_ble_eq_true e, Nat.le_of_ble_eq_true f, Nat.le_of_ble_eq_true g, Nat.le_of_ble_eq_true h, bltI.1 i, Nat.le_of_ble_eq_true j, Nat.le_of_ble_eq_true l, Nat.le_of_ble_eq_true m, Nat.le_of_ble_eq_true n, Nat.eq_of_beq_eq_true o⟩

end Go.Proofs.YtfjcbgfgiidogaaDoor
namespace Go.Proofs.YtfjcbgfgiidogaaDoor
open Go.RowKit

theorem ret_int {k : IntKind} {a b : Int} (h : a = b) : Ending.returned (.int k a) = .returned (.int k b) := by rw [h]
theorem ret_bool {a b : Bool} (h : a = b) : Ending.returned (.bool a) = .returned (.bool b) := by rw [h]

set_option maxRecDepth 10000 in
set_option maxHeartbeats 400000 in
theorem prime_any (n : Nat) (w : World) (hn : n < 64) :
    Calls Tryd.prog 122 #[.int .i64 (n : Int)] w fun e w' => e = .returned (.bool (pr n)) ∧ w = w' := by
  go_enter Tryd.func122, Tryd.ntmps122
  go_wp2
  go_loop [3] (fun i => ∃ d : Nat, 2 ≤ d ∧ d ≤ 9 ∧ i = .int .i64 d ∧ ∀ e, 2 ≤ e → e < d → n % e ≠ 0) (fun i => (9 - intOf i).toNat)
  case atStart => exact ⟨2, by omega, by omega, rfl, fun e h1 h2 => by omega⟩
  case round =>
    obtain ⟨d, hd2, hd, rfl, hno⟩ := hrel
    have HN := Lib.hid hno
    clear hno
    have e1 : ((d : Int) * (d : Int)) = ((d * d : Nat) : Int) := by simp
    obtain ⟨q, hq⟩ : ∃ q, q = d * d := ⟨_, rfl⟩
    have hq1 : q ≤ 81 := by rw [hq]; exact Nat.mul_le_mul hd hd
    rw [← hq] at e1
    have HQ := Lib.hid hq
    clear hq
    by_cases hdd : q ≤ n
    · have hd8 : d ≤ 8 := by
        by_cases h9 : d = 9
        · subst h9; have := HQ.out; omega
        · omega
      by_cases hm : n % d = 0
      · have ht : (((n : Int) % (d : Int)) == 0) = true := by rw [beq_iff_eq]; omega
        have HM := Lib.hid hm
        clear hm
        go_wp2
        go_ret
        exact ⟨ret_bool (pr_div hd2 (by have := HQ.out; omega) HM.out).symm, rfl⟩
      · have ht : (((n : Int) % (d : Int)) == 0) = false := by rw [beq_eq_false_iff_ne]; omega
        have HM := Lib.hid hm
        clear hm
        go_wp2
        go_round
        case rel =>
          refine ⟨d + 1, by omega, by omega, by go_num, fun e h1 h2 => ?_⟩
          by_cases h : e = d
          · subst h; exact HM.out
          · exact HN.out e h1 (by omega)
        case measure => simp [intOf]; omega
    · go_wp2
      go_ret
      refine ⟨ret_bool ?_, rfl⟩
      rw [pr_exit hn (by omega) hd2 (by have := HQ.out; omega) HN.out]
      simp
      omega

set_option maxRecDepth 10000 in
set_option maxHeartbeats 400000 in
theorem primeFrom_any (n : Nat) (w : World) (hn : n < 60) :
    Calls Tryd.prog 100 #[.int .i64 (n : Int)] w fun e w' => e = .returned (.int .i64 (pfrom n : Nat)) ∧ w = w' := by
  obtain ⟨h1, h2, h3, h4⟩ := pfrom_facts hn
  have H3 := Lib.hid h3
  have H4 := Lib.hid h4
  clear h3 h4
  go_enter Tryd.func100, Tryd.ntmps100
  go_wp2
  go_loop [0] (fun i => ∃ m : Nat, n ≤ m ∧ m ≤ pfrom n ∧ i = .int .i64 m) (fun i => (pfrom n - intOf i).toNat)
  case atStart => exact ⟨n, by omega, h1, rfl⟩
  case round =>
    obtain ⟨m, hm1, hm2, rfl⟩ := hrel
    by_cases hlt : m < pfrom n
    · have hp := H4.out m hm1 hlt
      go_wp2_with (first | (go_at_call 122; (with_reducible refine (prime_any _ _ (by omega)).mono ?_); rintro e w' ⟨rfl, rfl⟩))
      go_round
      case rel => exact ⟨m + 1, by omega, by omega, by go_num⟩
      case measure => simp [intOf]; omega
    · obtain rfl : m = pfrom n := by omega
      have hp := H3.out
      go_wp2_with (first | (go_at_call 122; (with_reducible refine (prime_any _ _ (by omega)).mono ?_); rintro e w' ⟨rfl, rfl⟩))
      go_ret
      exact ⟨rfl, rfl⟩

set_option maxRecDepth 10000 in
set_option maxHeartbeats 400000 in
theorem primeUpTo_any (n : Nat) (w : World) (h0 : 2 ≤ n) (hn : n < 60) :
    Calls Tryd.prog 101 #[.int .i64 (n : Int)] w fun e w' => e = .returned (.int .i64 (pup n : Nat)) ∧ w = w' := by
  obtain ⟨h1, h2, h3, h4⟩ := pup_facts h0 hn
  have H3 := Lib.hid h3
  have H4 := Lib.hid h4
  clear h3 h4
  go_enter Tryd.func101, Tryd.ntmps101
  go_wp2
  go_loop [0] (fun i => ∃ m : Nat, m ≤ n ∧ pup n ≤ m ∧ i = .int .i64 m) (fun i => (intOf i).toNat)
  case atStart => exact ⟨n, by omega, h1, rfl⟩
  case round =>
    obtain ⟨m, hm1, hm2, rfl⟩ := hrel
    by_cases hlt : pup n < m
    · have hp := H4.out m hlt hm1
      go_wp2_with (first | (go_at_call 122; (with_reducible refine (prime_any _ _ (by omega)).mono ?_); rintro e w' ⟨rfl, rfl⟩))
      go_round
      case rel => exact ⟨m - 1, by omega, by omega, by first | go_num | (congr 1; omega)⟩
      case measure => simp [intOf]; omega
    · obtain rfl : m = pup n := by omega
      have hp := H3.out
      go_wp2_with (first | (go_at_call 122; (with_reducible refine (prime_any _ _ (by omega)).mono ?_); rintro e w' ⟨rfl, rfl⟩))
      go_ret
      exact ⟨rfl, rfl⟩

theorem primeFrom_int (x : Int) (n r : Nat) (hx : x = n) (hr : pfrom n = r) (w : World) (hn : n < 60) :
    Calls Tryd.prog 100 #[.int .i64 x] w fun e w' => e = .returned (.int .i64 (r : Nat)) ∧ w = w' := by
  subst hx hr; exact primeFrom_any n w hn
theorem primeUpTo_int (x : Int) (n r : Nat) (hx : x = n) (hr : pup n = r) (w : World) (h0 : 2 ≤ n) (hn : n < 60) :
    Calls Tryd.prog 101 #[.int .i64 x] w fun e w' => e = .returned (.int .i64 (r : Nat)) ∧ w = w' := by
  subst hx hr; exact primeUpTo_any n w h0 hn

def codeV (k : Nat) : Value := .agg #[.int .i64 (k : Nat), .int .i64 (cKp k : Nat), .int .i64 (cS k : Nat), .int .i64 4, .int .i64 (cL k : Nat), .int .i64 (cW k : Nat), .int .i64 (cP k : Nat), .int .i64 (cP1 k : Nat), .int .i64 (cB k : Nat), .int .i64 (cJ k : Nat)]
def codeZ : Value := .agg #[.int .i64 0, .int .i64 0, .int .i64 0, .int .i64 0, .int .i64 0, .int .i64 0, .int .i64 0, .int .i64 0, .int .i64 0, .int .i64 0]

set_option maxRecDepth 10000 in
set_option maxHeartbeats 1000000 in
theorem params_any (k : Nat) (w : World) (h1 : 1 ≤ k) (hk : k ≤ 32) :
    Calls Tryd.prog 77 #[.int .i64 (k : Int)] w fun e w' => e = .returned (.tuple #[codeV k, .int .i64 0]) ∧ Below w.heap.size w w' := by
  obtain ⟨f1, f2, f3, f4, f5, f6, f7, f8, f9, f10, f11, f12, f13, f14⟩ := code_facts h1 hk
  have eKp : ((k : Int) + 3) / 4 * 4 = ((cKp k : Nat) : Int) := by unfold cKp; omega
  have H14 := Lib.hid f14
  clear f14
  have hB : ((cB k : Nat) : Int) = ((cW k : Nat) : Int) - ((cS k : Nat) : Int) := by unfold cB; omega
  have HB := Lib.hid hB
  clear hB
  have hL : ((cL k : Nat) : Int) = ((cKp k : Nat) : Int) + ((cS k : Nat) : Int) + 4 := by unfold cL; omega
  have HL := Lib.hid hL
  clear hL
  obtain ⟨t, ht, hj⟩ : ∃ t : Bool, (((cKp k : Nat) : Int) == 4) = t ∧ cJ k = if t then 2 else 0 := by
    refine ⟨_, rfl, ?_⟩
    unfold cJ
    by_cases h : cKp k = 4
    · simp [h]
    · have : (((cKp k : Nat) : Int) == 4) = false := beq_eq_false_iff_ne.2 (by omega)
      simp [this, h]
  have HJ := Lib.hid hj
  clear hj
  go_enter Tryd.func77, Tryd.ntmps77
  go_wp2_with fail
  (with_reducible refine (primeFrom_int _ (2 + cKp k / 4) (cS k) (by omega) rfl _ (by omega)).mono ?_)
  rintro e w' ⟨rfl, rfl⟩
  go_wp2_with fail
  (with_reducible refine (primeUpTo_int _ (cKp k + cS k) (cW k) (by omega) rfl _ (by omega) (by omega)).mono ?_)
  rintro e w' ⟨rfl, rfl⟩
  go_wp2_with fail
  (with_reducible refine (primeFrom_int _ (cP k) (cP1 k) (by have := H14.out; have := HL.out; omega) rfl _ (by omega)).mono ?_)
  rintro e w' ⟨rfl, rfl⟩
  cases t
  · go_wp2
    refine bodyPost_ret (v := .tuple #[.agg #[.int .i64 (k : Nat), .int .i64 (cKp k : Nat), .int .i64 (cS k : Nat), .int .i64 4, .int .i64 (((cKp k : Nat) : Int) + ((cS k : Nat) : Int) + 4), .int .i64 (cW k : Nat), .int .i64 (((cKp k : Nat) : Int) + ((cS k : Nat) : Int) + 4 - ((cW k : Nat) : Int)), .int .i64 (cP1 k : Nat), .int .i64 (((cW k : Nat) : Int) - ((cS k : Nat) : Int)), .int .i64 0], .int .i64 0]) (by simp [results, Tryd.results77, go_sem]) rfl ⟨?_, (((Below.refl _ _).alloc (Nat.le_refl _) _).alloc (by simp) _)⟩
    have e1 := HL.out
    have e2 := HB.out
    have e3 : ((cP k : Nat) : Int) = ((cKp k : Nat) : Int) + ((cS k : Nat) : Int) + 4 - ((cW k : Nat) : Int) := by have := H14.out; omega
    have e4 : ((cJ k : Nat) : Int) = 0 := by rw [HJ.out]; rfl
    unfold codeV
    rw [e1, e2, e3, e4]
  · go_wp2
    refine bodyPost_ret (v := .tuple #[.agg #[.int .i64 (k : Nat), .int .i64 (cKp k : Nat), .int .i64 (cS k : Nat), .int .i64 4, .int .i64 (((cKp k : Nat) : Int) + ((cS k : Nat) : Int) + 4), .int .i64 (cW k : Nat), .int .i64 (((cKp k : Nat) : Int) + ((cS k : Nat) : Int) + 4 - ((cW k : Nat) : Int)), .int .i64 (cP1 k : Nat), .int .i64 (((cW k : Nat) : Int) - ((cS k : Nat) : Int)), .int .i64 2], .int .i64 0]) (by simp [results, Tryd.results77, go_sem]) rfl ⟨?_, (((Below.refl _ _).alloc (Nat.le_refl _) _).alloc (by simp) _)⟩
    have e1 := HL.out
    have e2 := HB.out
    have e3 : ((cP k : Nat) : Int) = ((cKp k : Nat) : Int) + ((cS k : Nat) : Int) + 4 - ((cW k : Nat) : Int) := by have := H14.out; omega
    have e4 : ((cJ k : Nat) : Int) = 2 := by rw [HJ.out]; rfl
    unfold codeV
    rw [e1, e2, e3, e4]

set_option maxRecDepth 10000 in
set_option maxHeartbeats 1000000 in
theorem params_bad (k : Int) (w : World) (h : k < 1 ∨ 32 < k) :
    Calls Tryd.prog 77 #[.int .i64 k] w fun e w' => e = .returned (.tuple #[codeZ, .int .i64 30]) ∧ Below w.heap.size w w' := by
  by_cases h1 : k < 1
  · go_enter Tryd.func77, Tryd.ntmps77
    go_wp2
    exact bodyPost_ret (v := .tuple #[codeZ, .int .i64 30]) (by simp [results, Tryd.results77, go_sem, codeZ]) rfl ⟨rfl, (Below.refl _ _).alloc (Nat.le_refl _) _⟩
  · have h2 : 32 < k := by omega
    clear h
    go_enter Tryd.func77, Tryd.ntmps77
    go_wp2
    exact bodyPost_ret (v := .tuple #[codeZ, .int .i64 30]) (by simp [results, Tryd.results77, go_sem, codeZ]) rfl ⟨rfl, (Below.refl _ _).alloc (Nat.le_refl _) _⟩

end Go.Proofs.YtfjcbgfgiidogaaDoor
namespace Go.Proofs.YtfjcbgfgiidogaaDoor
open Go.RowKit

theorem wf_u32 {n : Int} (h : (Lit.int .u32 n).wf = true) : 0 ≤ n ∧ n < 4294967296 := by
  simp [Lit.wf, IntKind.min, IntKind.max, IntKind.signed, IntKind.bits] at h
  omega
/-- a word laid over itself, moved on. -/
def xsh (z d : Int) : Int := bits .xor .u32 z (z / d)
theorem xsh_range (z d : Int) : 0 ≤ xsh z d ∧ xsh z d < 4294967296 := wf_u32 (wf_bits _ _ _ _)
def rz (y i : Int) : Int := xsh (xsh (xsh ((2654435761 * (y % 4294967296) + 2246822507 * (i % 4294967296) + 668265263) % 4294967296) 32768 * 739982445 % 4294967296) 4096 * 695872825 % 4294967296) 32768
theorem rz_range (y i : Int) : 0 ≤ rz y i ∧ rz y i < 4294967296 := xsh_range _ _
theorem rz_mod (y i : Int) : rz (y % 4294967296) i = rz y i := by
  unfold rz
  rw [Int.emod_emod_of_dvd y (Int.dvd_refl _)]
theorem rz_end (y i m : Int) (hm : 1 ≤ m) (hm2 : m ≤ 9223372036854775807) : wrap64 ((IntKind.u64.wrap (rz y i)).tmod m) = rz y i % m := by
  obtain ⟨h0, h1⟩ := rz_range y i
  rw [IntWalk.u64_in _ (by omega), Int.tmod_eq_emod_of_nonneg h0]
  have := Int.emod_nonneg (rz y i) (show m ≠ 0 by omega)
  have := Int.emod_lt_of_pos (rz y i) (show 0 < m by omega)
  exact IntWalk.wrap64_in _ (by omega)

set_option maxRecDepth 10000 in
set_option maxHeartbeats 400000 in
theorem rand_any (y i m : Int) (w : World) (hm : 1 ≤ m) (hm2 : m ≤ 9223372036854775807) :
    Calls Tryd.prog 111 #[.int .i64 y, .int .i64 i, .int .i64 m] w fun e w' => e = .returned (.int .i64 (rz y i % m)) ∧ w = w' := by
  have HE := Lib.hid (rz_end y i m hm hm2)
  go_enter Tryd.func111, Tryd.ntmps111
  go_wp2
  go_ret
  exact ⟨ret_int (by rw [← HE.out]; rfl), rfl⟩
set_option maxRecDepth 10000 in
set_option maxHeartbeats 400000 in
theorem rand_none (y i m : Int) (w : World) (hm : m < 1) :
    Calls Tryd.prog 111 #[.int .i64 y, .int .i64 i, .int .i64 m] w fun e w' => e = .returned (.int .i64 0) ∧ w = w' := by
  go_enter Tryd.func111, Tryd.ntmps111
  go_wp2
  go_ret
  exact ⟨rfl, rfl⟩
theorem rz_swap (y i : Int) : (y % 4294967296 * 2654435761 + i % 4294967296 * 2246822507 + 668265263) % 4294967296 = (2654435761 * (y % 4294967296) + 2246822507 * (i % 4294967296) + 668265263) % 4294967296 := by
  rw [Int.mul_comm (y % 4294967296), Int.mul_comm (i % 4294967296)]
set_option maxRecDepth 10000 in
set_option maxHeartbeats 400000 in
theorem refRand_any (y i m : Int) (w : World) (hm : 1 ≤ m) (hm2 : m ≤ 9223372036854775807) :
    Calls Tryd.prog 125 #[.int .i64 y, .int .i64 i, .int .i64 m] w fun e w' => e = .returned (.int .i64 (rz y i % m)) ∧ w = w' := by
  have HE := Lib.hid (rz_end y i m hm hm2)
  have HS := Lib.hid (rz_swap y i)
  go_enter Tryd.func125, Tryd.ntmps125
  go_wp2
  go_ret
  exact ⟨ret_int (by rw [← HE.out, HS.out]; rfl), rfl⟩
set_option maxRecDepth 10000 in
set_option maxHeartbeats 400000 in
theorem refRand_none (y i m : Int) (w : World) (hm : m < 1) :
    Calls Tryd.prog 125 #[.int .i64 y, .int .i64 i, .int .i64 m] w fun e w' => e = .returned (.int .i64 0) ∧ w = w' := by
  go_enter Tryd.func125, Tryd.ntmps125
  go_wp2
  go_ret
  exact ⟨rfl, rfl⟩

def bnds : List Int := [5243, 529531, 704294, 791675, 844104, 879057, 904023, 922747, 937311, 948962, 958494, 966438, 973160, 978921, 983914, 988283, 992138, 995565, 998631, 1001391, 1003887, 1006157, 1008229, 1010129, 1011876, 1013490, 1014983, 1016370, 1017662, 1048576]
def bndsV : Array Value := (bnds.map fun z => Value.int .i64 z).toArray
theorem run_index_in {P : Program} (t e : TypeId) (n : Nat) (i : TypeInfo) (cs : Array Value) (k : IntKind) (j : Nat) (v : Value) (h : P.underlying t = some (.array n e)) (hi : P.info? e = some i) (hs : i.size = 1) (hj : j < n) (hv : cs[j]? = some v) (hk : P.underlying e = some (.int .i64)) (w : World) :
    (Instr.index t (.agg cs) (.int k (j : Int))).run P w = .ok v w := by
  have hlt := (Array.getElem?_eq_some_iff.1 hv).1
  simp [Instr.index, run_underlying h, asIntOf, sizeOf, typeInfo, hi, hs, hj, part, isAgg, run_underlying hk, hv]

/-- how many of the first k bounds v has reached. -/
def cnt (v : Int) : Nat → Nat
  | 0 => 0
  | k + 1 => if bnds.getD k 0 ≤ v then cnt v k + 1 else cnt v k
theorem cnt_le (v : Int) : ∀ k, cnt v k ≤ k
  | 0 => Nat.le_refl _
  | k + 1 => by have := cnt_le v k; simp only [cnt]; split <;> omega
def deg0 (v : Int) : Nat := min (1 + cnt v 30) 30
def degS (v w : Int) : Int := if w < (deg0 v : Int) + 2 then (max w 3) - 2 else deg0 v

end Go.Proofs.YtfjcbgfgiidogaaDoor
namespace Go.Proofs.YtfjcbgfgiidogaaDoor
open Go.RowKit

theorem bnds_get {k : Nat} (hk : k < 30) : bndsV[k]? = some (.int .i64 (bnds.getD k 0)) := by
  have : bnds.length = 30 := rfl
  unfold bndsV
  simp [List.getElem?_map, List.getD, List.getElem?_eq_getElem (show k < bnds.length by omega)]
theorem cnt_succ (v : Int) (k : Nat) : cnt v (k + 1) = if bnds.getD k 0 ≤ v then cnt v k + 1 else cnt v k := rfl
theorem bnds_range (k : Nat) : 0 ≤ bnds.getD k 0 ∧ bnds.getD k 0 ≤ 1048576 := by
  by_cases hk : k < 30
  · have : ∀ j < 30, 0 ≤ bnds.getD j 0 ∧ bnds.getD j 0 ≤ 1048576 := by decide +kernel
    exact this k hk
  · have : bnds.length = 30 := rfl
    simp [List.getD, List.getElem?_eq_none (show bnds.length ≤ k by omega)]

set_option maxRecDepth 10000 in
set_option maxHeartbeats 1000000 in
theorem degree_any (v x : Int) (w : World) (t : TypeId) (fr : Nat × Nat) (hx : -9223372036854775808 ≤ x ∧ x ≤ 9223372036854775807) (hg : w.heap[0]? = some (.cells bndsV t fr)) :
    Calls Tryd.prog 110 #[.int .i64 v, .int .i64 x] w fun e w' => e = .returned (.int .i64 (degS v x)) ∧ w = w' := by
  obtain ⟨hx0, hx1⟩ := hx
  go_enter Tryd.func110, Tryd.ntmps110
  go_wp2_with (refine wpList_load_row rfl 162 _ rfl 0 rfl t _ fr _ hg Tryd.underlying162 rfl (by kernel_rfl) ?_)
  go_loop [5, 9] (fun d i => ∃ k : Nat, k ≤ 30 ∧ d = .int .i64 (min (1 + cnt v k) 30 : Nat) ∧ i = .int .i64 (k : Int)) (fun d i => (30 - intOf i).toNat)
  case atStart => exact ⟨0, by omega, rfl, rfl⟩
  case round =>
    obtain ⟨k, hk, rfl, rfl⟩ := hrel
    obtain ⟨b, hb⟩ : ∃ b, b = bnds.getD k 0 := ⟨_, rfl⟩
    have hbr := bnds_range k
    rw [← hb] at hbr
    obtain ⟨hb0, hb1⟩ := hbr
    have hs := cnt_succ v k
    rw [← hb] at hs
    have HS := Lib.hid hs
    clear hs
    have hc := cnt_le v k
    obtain ⟨c, hcd⟩ : ∃ c, c = cnt v k := ⟨_, rfl⟩
    rw [← hcd] at HS hc ⊢
    by_cases hlt : k < 30
    · have hget := bnds_get hlt
      rw [← hb] at hget
      have hix := run_index_in 162 3 30 _ bndsV .i64 k _ Tryd.underlying162 rfl rfl hlt hget Tryd.underlying3
      have HB := Lib.hid hb
      clear hb hget
      by_cases hbv : b ≤ v
      · by_cases hc30 : 1 + c < 30
        · have hm : min (1 + c) 30 = 1 + c := by omega
          rw [hm]
          go_wp2
          go_round
          case rel =>
            refine ⟨k + 1, by omega, ?_, by go_num⟩
            have := HS.out
            rw [if_pos hbv] at this
            rw [this]
            go_num
          case measure => simp [intOf]; omega
        · have hm : min (1 + c) 30 = 30 := by omega
          rw [hm]
          go_wp2
          go_round
          case rel =>
            refine ⟨k + 1, by omega, ?_, by go_num⟩
            have := HS.out
            rw [if_pos hbv] at this
            rw [this]
            have hm2 : min (1 + (c + 1)) 30 = 30 := by omega
            rw [hm2]
          case measure => simp [intOf]; omega
      · go_wp2
        go_round
        case rel =>
          refine ⟨k + 1, by omega, ?_, by go_num⟩
          have := HS.out
          rw [if_neg hbv] at this
          rw [this]
        case measure => simp [intOf]; omega
    · obtain rfl : k = 30 := by omega
      have hd : deg0 v = min (1 + c) 30 := by rw [hcd]; rfl
      obtain ⟨d, hdd⟩ : ∃ d, d = min (1 + c) 30 := ⟨_, rfl⟩
      rw [← hdd] at hd ⊢
      have hd30 : d ≤ 30 := by omega
      have HD := Lib.hid hd
      clear hd hdd hb hcd HS
      by_cases hxd : x < (d : Int) + 2
      · by_cases hx3 : x < 3
        · go_wp2
          go_ret
          refine ⟨ret_int ?_, rfl⟩
          have hm : max x 3 = 3 := by omega
          simp only [degS, HD.out]
          rw [if_pos hxd, hm]
          try omega
        · go_wp2
          go_ret
          refine ⟨ret_int ?_, rfl⟩
          have hm : max x 3 = x := by omega
          simp only [degS, HD.out]
          rw [if_pos hxd, hm]
      · go_wp2
        go_ret
        refine ⟨ret_int ?_, rfl⟩
        simp only [degS, HD.out]
        rw [if_neg (by omega)]

theorem spare_world (w : World) (cs : Array Value) (old : Array Value) (t : TypeId) (P : World → Prop) (h : ∀ W1, W1.heap[w.heap.size]? = some (.cells cs t (0, 0)) → Below w.heap.size w W1 → P W1) :
    P ((w.alloc (.cells old t (0, 0))).setRow w.heap.size cs) :=
  h _ (setRow_heap _ _ _ _ _ _ (heap_alloc_new _ _)) (by
    refine ⟨rfl, rfl, rfl, by simp, fun k hk => ?_⟩
    rw [setRow_other _ _ _ _ (by omega), heap_alloc_old _ _ hk])

set_option maxRecDepth 10000 in
set_option maxHeartbeats 1000000 in
theorem refDegree_any (v x : Int) (w : World) (hx : -9223372036854775808 ≤ x ∧ x ≤ 9223372036854775807) :
    Calls Tryd.prog 124 #[.int .i64 v, .int .i64 x] w fun e w' => e = .returned (.int .i64 (degS v x)) ∧ Below w.heap.size w w' := by
  obtain ⟨hx0, hx1⟩ := hx
  go_enter Tryd.func124, Tryd.ntmps124
  go_wp2_with ((with_reducible show wpList _ _ _ (⟨_, Op.store _ _ _, _, _, _, _⟩ :: _) _ _); (refine wpList_store_row rfl 162 (.tmp 5) (.tmp 8) rfl w.heap.size bndsV rfl rfl _ _ (heap_alloc_new _ _) (by kernel_rfl) rfl (by kernel_rfl) ?_); (refine spare_world w _ _ _ _ ?_); intro W1 hrow hbel)
  go_loop [6, 7] (fun d i => ∃ k : Nat, k ≤ 30 ∧ d = .int .i64 (1 + cnt v k : Nat) ∧ i = .int .i64 (k : Int)) (fun d i => (30 - intOf i).toNat)
  case atStart => exact ⟨0, by omega, rfl, rfl⟩
  case round =>
    obtain ⟨k, hk, rfl, rfl⟩ := hrel
    obtain ⟨b, hb⟩ : ∃ b, b = bnds.getD k 0 := ⟨_, rfl⟩
    have hbr := bnds_range k
    rw [← hb] at hbr
    obtain ⟨hb0, hb1⟩ := hbr
    have hs := cnt_succ v k
    rw [← hb] at hs
    have HS := Lib.hid hs
    clear hs
    have hc := cnt_le v k
    obtain ⟨c, hcd⟩ : ∃ c, c = cnt v k := ⟨_, rfl⟩
    rw [← hcd] at HS hc ⊢
    by_cases hlt : k < 30
    · have hget := bnds_get hlt
      rw [← hb] at hget
      have c1 : W1.cell? ⟨w.heap.size, k, none⟩ = some (.int .i64 b) := by
        rw [cell_of_row _ _ _ _ _ _ hrow, hget]
      have HB := Lib.hid hb
      clear hb hget
      by_cases hbv : b ≤ v
      · go_wp2
        go_round
        case rel =>
          refine ⟨k + 1, by omega, ?_, by go_num⟩
          have := HS.out
          rw [if_pos hbv] at this
          rw [this]
          go_num
        case measure => simp [intOf]; omega
      · go_wp2
        go_round
        case rel =>
          refine ⟨k + 1, by omega, ?_, by go_num⟩
          have := HS.out
          rw [if_neg hbv] at this
          rw [this]
        case measure => simp [intOf]; omega
    · obtain rfl : k = 30 := by omega
      have hd : deg0 v = min (1 + c) 30 := by rw [hcd]; rfl
      have HD := Lib.hid hd
      clear hd hb hcd HS
      by_cases hc30 : 30 < 1 + c
      · have hm : min (1 + c) 30 = 30 := by omega
        by_cases hxd : x < 32
        · by_cases hx3 : 3 < x
          · go_wp2
            go_ret
            refine ⟨ret_int ?_, hbel⟩
            simp only [degS, HD.out, hm]
            rw [if_pos (by omega), show max x 3 = x by omega]
          · go_wp2
            go_ret
            refine ⟨ret_int ?_, hbel⟩
            simp only [degS, HD.out, hm]
            rw [if_pos (by omega), show max x 3 = 3 by omega]
            try omega
        · go_wp2
          go_ret
          refine ⟨ret_int ?_, hbel⟩
          simp only [degS, HD.out, hm]
          rw [if_neg (by omega)]
          try omega
      · have hm : min (1 + c) 30 = 1 + c := by omega
        by_cases hxd : x < (c : Int) + 3
        · by_cases hx3 : 3 < x
          · go_wp2
            go_ret
            refine ⟨ret_int ?_, hbel⟩
            simp only [degS, HD.out, hm]
            rw [if_pos (by omega), show max x 3 = x by omega]
          · go_wp2
            go_ret
            refine ⟨ret_int ?_, hbel⟩
            simp only [degS, HD.out, hm]
            rw [if_pos (by omega), show max x 3 = 3 by omega]
            try omega
        · go_wp2
          go_ret
          refine ⟨ret_int ?_, hbel⟩
          simp only [degS, HD.out, hm]
          rw [if_neg (by omega)]
          try omega
end Go.Proofs.YtfjcbgfgiidogaaDoor
namespace Go.Proofs.YtfjcbgfgiidogaaDoor
open Go.RowKit

theorem code_one : codeV ((1 : Nat)) = .agg #[.int .i64 1, .int .i64 4, .int .i64 3, .int .i64 4, .int .i64 11, .int .i64 7, .int .i64 4, .int .i64 5, .int .i64 4, .int .i64 2] := by kernel_rfl
theorem deg_one : degS 5243 43 = 2 := by decide +kernel
/-- the bounds lie in the world. -/
def Bnd (w : World) : Prop := ∃ t fr, w.heap[0]? = some (.cells bndsV t fr)
theorem Bnd.below {w w' : World} (h : Bnd w) (hb : Below w.heap.size w w') : Bnd w' := by
  obtain ⟨t, fr, hg⟩ := h
  exact ⟨t, fr, (hb.block 0 (Array.getElem?_eq_some_iff.1 hg).1).trans hg⟩
theorem Bnd.alloc {w : World} {o : Obj} (h : Bnd w) : Bnd (w.alloc o) := h.below ((Below.refl _ _).alloc (Nat.le_refl _) o)
theorem degree_call (v x : Int) (w : World) (hx0 : -9223372036854775808 ≤ x) (hx1 : x ≤ 9223372036854775807) (hg : Bnd w) :
    Calls Tryd.prog 110 #[.int .i64 v, .int .i64 x] w fun e w' => e = .returned (.int .i64 (degS v x)) ∧ w = w' := by
  obtain ⟨t, fr, hg⟩ := hg
  exact degree_any v x w t fr ⟨hx0, hx1⟩ hg
theorem params_one (w : World) :
    Calls Tryd.prog 77 #[.int .i64 1] w fun e w' => e = .returned (.tuple #[.agg #[.int .i64 1, .int .i64 4, .int .i64 3, .int .i64 4, .int .i64 11, .int .i64 7, .int .i64 4, .int .i64 5, .int .i64 4, .int .i64 2], .int .i64 0]) ∧ Below w.heap.size w w' := by
  rw [← code_one]
  exact params_any 1 w (by omega) (by omega)

end Go.Proofs.YtfjcbgfgiidogaaDoor
namespace Go.Proofs.YtfjcbgfgiidogaaDoor
open Go.RowKit

/-- one tuple's numbers, y and x being mixed, over a code's W and P1. -/
def tupD (y W : Int) : Int := degS (rz y 0 % 1048576) W
def tupD1 (y x W : Int) : Int := if tupD y W < 4 then 2 + rz x 3 % 2 else 2
def tupV (y x W P1 : Int) : Value := .agg #[.int .i64 (tupD y W), .int .i64 (1 + rz y 1 % (W - 1)), .int .i64 (rz y 2 % W), .int .i64 (tupD1 y x W), .int .i64 (1 + rz x 4 % (P1 - 1)), .int .i64 (rz x 5 % P1)]
def tupZ : Value := .agg #[.int .i64 0, .int .i64 0, .int .i64 0, .int .i64 0, .int .i64 0, .int .i64 0]
def tupZs : Array Value := #[.int .i64 0, .int .i64 0, .int .i64 0, .int .i64 0, .int .i64 0, .int .i64 0]
theorem one6 (a b c d e f : Int) : (#[Value.int .i64 a, .int .i64 b, .int .i64 c, .int .i64 d, .int .i64 e, .int .i64 f].all (·.oneCell')) = true := by simp [Value.oneCell']
theorem loadVar_tup (w : World) (g : Nat) (cs : Array Value) (hg : w.heap[g]? = some (.cells cs 125 (0, 0))) (hs : cs.size = 6) : (loadVar 125 ⟨g, 0, none⟩).run Tryd.prog w = .ok (.agg cs) w :=
  run_loadVar_row w g 125 125 cs (0, 0) _ hg Tryd.underlying125 rfl (by rw [hs]; kernel_rfl)
theorem below_setRow {B : Nat} {a w : World} (h : Below B a w) {g : Nat} (hg : B ≤ g) (cs : Array Value) : Below B a (w.setRow g cs) :=
  ⟨h.os, h.tape, h.output, by simpa using h.size, fun k hk => (setRow_other w g k cs (by omega)).trans (h.block k hk)⟩
theorem deg0_range (v : Int) : 1 ≤ deg0 v ∧ deg0 v ≤ 30 := by unfold deg0; omega
theorem degS_range (v w : Int) : 1 ≤ degS v w ∧ degS v w ≤ 30 := by
  have := deg0_range v
  unfold degS
  split <;> omega
theorem rand_is (y i m r : Int) (hm : 1 ≤ m) (hm2 : m ≤ 9223372036854775807) (hr : r = rz y i % m) (w : World) :
    Calls Tryd.prog 111 #[.int .i64 y, .int .i64 i, .int .i64 m] w fun e w' => e = .returned (.int .i64 r) ∧ w = w' := by
  rw [hr]
  exact rand_any y i m w hm hm2
theorem rz_range2 (y i m : Int) (hm : 1 ≤ m) : 0 ≤ rz y i % m ∧ rz y i % m < m := ⟨Int.emod_nonneg _ (by omega), Int.emod_lt_of_pos _ (by omega)⟩

theorem spare_alloc (w : World) (o : Obj) (P : World → Prop) (h : ∀ W1, W1.heap[w.heap.size]? = some o → Below w.heap.size w W1 → P W1) : P (w.alloc o) :=
  h _ (heap_alloc_new _ _) ((Below.refl _ _).alloc (Nat.le_refl _) o)
theorem Bnd.drew {w : World} (h : Bnd w) : Bnd w.drew := h
theorem degree_is (v x d : Int) (hx0 : -9223372036854775808 ≤ x) (hx1 : x ≤ 9223372036854775807) (hd : d = degS v x) (w : World) (hg : Bnd w) :
    Calls Tryd.prog 110 #[.int .i64 v, .int .i64 x] w fun e w' => e = .returned (.int .i64 d) ∧ w = w' := by
  rw [hd]
  exact degree_call v x w hx0 hx1 hg

theorem results_tup (tmps : Array Value) (w : World) (g : Nat) (cs : Array Value) (n : Int) (hp : tmps.getD 4 undef = .pointer (some ⟨g, 0, none⟩)) (h5 : tmps.getD 5 undef = .int .i64 n) (hg : w.heap[g]? = some (.cells cs 125 (0, 0))) (hs : cs.size = 6) :
    (results Tryd.f87 tmps).run Tryd.prog w = .ok (.tuple #[.agg cs, .int .i64 n]) w := by
  have hp' : tmps[4]?.getD undef = .pointer (some ⟨g, 0, none⟩) := by simpa using hp
  have h5' : tmps[5]?.getD undef = .int .i64 n := by simpa using h5
  simp [results, Tryd.results87, hp', h5', asAddr, loadVar_tup w g cs hg hs]
end Go.Proofs.YtfjcbgfgiidogaaDoor
