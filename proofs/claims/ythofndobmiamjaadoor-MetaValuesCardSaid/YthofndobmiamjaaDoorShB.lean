/-
  sha: words turned.
-/
import Derived.Test.YthofndobmiamjaaDoorShA
import Derived.Test.YthofndobmiamjaaDoorUseI
namespace Go.Proofs.YthofndobmiamjaaDoor
open Go.RowKit

def turnsOK (n : Nat) : Prop := n = 2 ∨ n = 6 ∨ n = 7 ∨ n = 11 ∨ n = 13 ∨ n = 17 ∨ n = 18 ∨ n = 19 ∨ n = 22 ∨ n = 25
theorem or_rot (x A B : Nat) (hx : x < 4294967296) : bits .or .u32 ((x : Int) * (A : Nat) % 4294967296) ((x : Int) / (B : Nat)) = ((x * A % 4294967296 ||| x / B : Nat) : Int) := by
  have h1 : (x : Int) * (A : Nat) % 4294967296 = ((x * A % 4294967296 : Nat) : Int) := by simp
  have h2 : (x : Int) / (B : Nat) = ((x / B : Nat) : Int) := by simp
  rw [h1, h2]
  exact u32_or_nat _ _ (Nat.mod_lt _ (by decide)) (Nat.lt_of_le_of_lt (Nat.div_le_self _ _) hx)
set_option maxRecDepth 100000 in
set_option maxHeartbeats 4000000 in
theorem rotl_any (x n : Nat) (hx : x < 4294967296) (hn : turnsOK n) (v : Int) (hv : v = -(n : Int)) (w : World) :
    Calls Tryd.prog 49 #[.int .u32 (x : Nat), .int .i64 v] w fun e w' => e = .returned (.int .u32 (rotr x n : Nat)) ∧ w' = w := by
  have HX := Lib.hid hx
  clear hx
  rcases hn with rfl | rfl | rfl | rfl | rfl | rfl | rfl | rfl | rfl | rfl
  · obtain rfl : v = -2 := by omega
    clear hv
    have hk : bits .and .u64 (IntKind.u64.wrap (-2)) 31 = 30 := by decide +kernel
    go_enter Tryd.func49, Tryd.ntmps49
    go_wp2
    go_ret
    exact ⟨congrArg (fun v => Ending.returned (Value.int .u32 v)) (or_rot x 1073741824 4 HX.out), rfl⟩
  · obtain rfl : v = -6 := by omega
    clear hv
    have hk : bits .and .u64 (IntKind.u64.wrap (-6)) 31 = 26 := by decide +kernel
    go_enter Tryd.func49, Tryd.ntmps49
    go_wp2
    go_ret
    exact ⟨congrArg (fun v => Ending.returned (Value.int .u32 v)) (or_rot x 67108864 64 HX.out), rfl⟩
  · obtain rfl : v = -7 := by omega
    clear hv
    have hk : bits .and .u64 (IntKind.u64.wrap (-7)) 31 = 25 := by decide +kernel
    go_enter Tryd.func49, Tryd.ntmps49
    go_wp2
    go_ret
    exact ⟨congrArg (fun v => Ending.returned (Value.int .u32 v)) (or_rot x 33554432 128 HX.out), rfl⟩
  · obtain rfl : v = -11 := by omega
    clear hv
    have hk : bits .and .u64 (IntKind.u64.wrap (-11)) 31 = 21 := by decide +kernel
    go_enter Tryd.func49, Tryd.ntmps49
    go_wp2
    go_ret
    exact ⟨congrArg (fun v => Ending.returned (Value.int .u32 v)) (or_rot x 2097152 2048 HX.out), rfl⟩
  · obtain rfl : v = -13 := by omega
    clear hv
    have hk : bits .and .u64 (IntKind.u64.wrap (-13)) 31 = 19 := by decide +kernel
    go_enter Tryd.func49, Tryd.ntmps49
    go_wp2
    go_ret
    exact ⟨congrArg (fun v => Ending.returned (Value.int .u32 v)) (or_rot x 524288 8192 HX.out), rfl⟩
  · obtain rfl : v = -17 := by omega
    clear hv
    have hk : bits .and .u64 (IntKind.u64.wrap (-17)) 31 = 15 := by decide +kernel
    go_enter Tryd.func49, Tryd.ntmps49
    go_wp2
    go_ret
    exact ⟨congrArg (fun v => Ending.returned (Value.int .u32 v)) (or_rot x 32768 131072 HX.out), rfl⟩
  · obtain rfl : v = -18 := by omega
    clear hv
    have hk : bits .and .u64 (IntKind.u64.wrap (-18)) 31 = 14 := by decide +kernel
    go_enter Tryd.func49, Tryd.ntmps49
    go_wp2
    go_ret
    exact ⟨congrArg (fun v => Ending.returned (Value.int .u32 v)) (or_rot x 16384 262144 HX.out), rfl⟩
  · obtain rfl : v = -19 := by omega
    clear hv
    have hk : bits .and .u64 (IntKind.u64.wrap (-19)) 31 = 13 := by decide +kernel
    go_enter Tryd.func49, Tryd.ntmps49
    go_wp2
    go_ret
    exact ⟨congrArg (fun v => Ending.returned (Value.int .u32 v)) (or_rot x 8192 524288 HX.out), rfl⟩
  · obtain rfl : v = -22 := by omega
    clear hv
    have hk : bits .and .u64 (IntKind.u64.wrap (-22)) 31 = 10 := by decide +kernel
    go_enter Tryd.func49, Tryd.ntmps49
    go_wp2
    go_ret
    exact ⟨congrArg (fun v => Ending.returned (Value.int .u32 v)) (or_rot x 1024 4194304 HX.out), rfl⟩
  · obtain rfl : v = -25 := by omega
    clear hv
    have hk : bits .and .u64 (IntKind.u64.wrap (-25)) 31 = 7 := by decide +kernel
    go_enter Tryd.func49, Tryd.ntmps49
    go_wp2
    go_ret
    exact ⟨congrArg (fun v => Ending.returned (Value.int .u32 v)) (or_rot x 128 33554432 HX.out), rfl⟩
theorem xor32 (a b : Nat) (ha : a < 4294967296) (hb : b < 4294967296) : bits .xor .u32 (a : Int) (b : Int) = ((a ^^^ b : Nat) : Int) := u32_xor_nat a b ha hb
theorem wrap_i64_neg (m : Nat) (h : m < 1000) : IntKind.i64.wrap (-(m : Int)) = -(m : Int) := by
  simp [IntKind.wrap, IntKind.bits, IntKind.signed]
  omega
def ivs (ns : List Nat) : List Int := ns.map (fun n : Nat => (n : Int))
set_option maxRecDepth 100000 in
set_option maxHeartbeats 4000000 in
theorem turned_any (x : Nat) (ns : List Nat) (hx : x < 4294967296) (hns : ∀ n ∈ ns, turnsOK n) (ad : Option Addr) (n c : Nat) (w : World) (h : IntsV w (ad, n, c) (ivs ns)) :
    Calls Tryd.prog 45 #[.int .u32 (x : Nat), .slice ad n c] w fun e w' => e = .returned (.int .u32 (turns x ns : Nat)) ∧ w' = w := by
  have hl : ns.length = n := by have := h.length; simpa [ivs] using this
  have hsm : n ≤ 140737488355328 := h.small
  have HX := Lib.hid hx
  have HL := Lib.hid hl
  have HN := Lib.hid hns
  clear hx hl hns
  go_enter Tryd.func45, Tryd.ntmps45
  go_wp2_with fail
  go_loopw [5, 10] (fun va vi wr => ∃ k : Nat, k ≤ n ∧ vi = .int .i64 k ∧ va = .int .u32 (turns x (ns.take k) : Nat) ∧ wr = w) (fun _ vi _ => n - (intOf vi).toNat)
  case atStart => exact ⟨0, Nat.zero_le _, rfl, rfl, rfl⟩
  case round =>
    obtain ⟨k, hk, rfl, rfl, rfl⟩ := hrel
    by_cases hlt : k < n
    · obtain ⟨b, o, e, hc⟩ := h.row.2 (by simp only; omega)
      simp only at e
      subst e
      have hkl : k < ns.length := by rw [HL.out]; exact hlt
      obtain ⟨m, hm⟩ : ∃ m, m = ns[k] := ⟨_, rfl⟩
      have hx0 := hc k hlt
      have hx1 : wr.cell? ⟨b, o + k, none⟩ = some (.int .i64 (m : Nat)) := by
        rw [hx0, hm]
        simp [ivs, iv, hkl]
      obtain ⟨T, hT⟩ : ∃ T, T = turns x (ns.take k) := ⟨_, rfl⟩
      have hTl : T < 4294967296 := by rw [hT]; exact turns_lt HX.out _
      have hS : turns x (ns.take (k + 1)) = T ^^^ rotr x m := by
        rw [List.take_succ_eq_append_getElem hkl, hT, hm]
        exact turnL_snoc x _ _ 0
      rw [← hT]
      have KR := fun w => rotl_any x m HX.out (HN.out m (by rw [hm]; exact List.getElem_mem hkl)) (-(m : Int)) rfl w
      have hxo := xor32 T (rotr x m) hTl (rotr_lt HX.out)
      obtain ⟨R, hR⟩ : ∃ R, R = rotr x m := ⟨_, rfl⟩
      rw [← hR] at hS hxo
      simp only [← hR] at KR
      have HS := Lib.hid hS
      have hm9 : m < 1000 := by
        have := HN.out m (by rw [hm]; exact List.getElem_mem hkl)
        unfold turnsOK at this
        omega
      have hwn : IntKind.i64.wrap (-(m : Int)) = -(m : Int) := wrap_i64_neg m hm9
      clear hc hx0 hm hT hS hR h hTl
      go_wp2_with fail
      (with_reducible refine (KR _).mono ?_)
      rintro e w2 ⟨rfl, rfl⟩
      go_wp2
      go_roundw
      case rel => exact ⟨k + 1, by omega, by go_num, by rw [HS.out], trivial⟩
      case measure => simp [intOf]; omega
    · obtain rfl : k = n := by omega
      go_wp2
      go_ret
      exact ⟨by rw [List.take_of_length_le (by rw [HL.out]; exact Nat.le_refl _)]; rfl, rfl⟩
end Go.Proofs.YthofndobmiamjaaDoor
