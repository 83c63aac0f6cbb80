/-
  tuple: Rand, Degree, and the reference's.
-/
import Derived.Test.YtlmnijcocfjpoaaDoorTuA
import Derived.Laws.PanicsMore
import Derived.Laws.Rows
import Derived.OpenShut
import Derived.FnData
namespace Go.Proofs.YtlmnijcocfjpoaaDoor
open Go.RowKit

theorem wf_u32 {n : Int} (h : (Lit.int .u32 n).wf = true) : 0 ≤ n ∧ n < 4294967296 := by
  simp [Lit.wf, IntKind.min, IntKind.max, IntKind.signed, IntKind.bits] at h
  omega
/-- a word laid over itself, moved on. -/
def xsh (z d : Int) : Int := bits .xor .u32 z (z / d)
theorem xsh_range (z d : Int) : 0 ≤ xsh z d ∧ xsh z d < 4294967296 := wf_u32 (wf_bits _ _ _ _)
def rz (y i : Int) : Int := xsh (xsh (xsh ((2654435761 * (y % 4294967296) + 2246822507 * (i % 4294967296) + 668265263) % 4294967296) 32768 * 739982445 % 4294967296) 4096 * 695872825 % 4294967296) 32768
theorem rz_range (y i : Int) : 0 ≤ rz y i ∧ rz y i < 4294967296 := xsh_range _ _
theorem rz_mod (y i : Int) : rz (y % 4294967296) i = rz y i := by
  unfold rz
  rw [Int.emod_emod_of_dvd y (Int.dvd_refl _)]
theorem rz_end (y i m : Int) (hm : 1 ≤ m) (hm2 : m ≤ 9223372036854775807) : wrap64 ((IntKind.u64.wrap (rz y i)).tmod m) = rz y i % m := by
  obtain ⟨h0, h1⟩ := rz_range y i
  rw [IntWalk.u64_in _ (by omega), Int.tmod_eq_emod_of_nonneg h0]
  have := Int.emod_nonneg (rz y i) (show m ≠ 0 by omega)
  have := Int.emod_lt_of_pos (rz y i) (show 0 < m by omega)
  exact IntWalk.wrap64_in _ (by omega)

set_option maxRecDepth 10000 in
set_option maxHeartbeats 400000 in
theorem rand_any (y i m : Int) (w : World) (hm : 1 ≤ m) (hm2 : m ≤ 9223372036854775807) :
    Calls Tryd.prog 11 #[.int .i64 y, .int .i64 i, .int .i64 m] w fun e w' => e = .returned (.int .i64 (rz y i % m)) ∧ w = w' := by
  have HE := Lib.hid (rz_end y i m hm hm2)
  go_enter Tryd.func11, Tryd.ntmps11
  go_wp2
  go_ret
  exact ⟨ret_int (by rw [← HE.out]; rfl), rfl⟩
set_option maxRecDepth 10000 in
set_option maxHeartbeats 400000 in
theorem rand_none (y i m : Int) (w : World) (hm : m < 1) :
    Calls Tryd.prog 11 #[.int .i64 y, .int .i64 i, .int .i64 m] w fun e w' => e = .returned (.int .i64 0) ∧ w = w' := by
  go_enter Tryd.func11, Tryd.ntmps11
  go_wp2
  go_ret
  exact ⟨rfl, rfl⟩
theorem rz_swap (y i : Int) : (y % 4294967296 * 2654435761 + i % 4294967296 * 2246822507 + 668265263) % 4294967296 = (2654435761 * (y % 4294967296) + 2246822507 * (i % 4294967296) + 668265263) % 4294967296 := by
  rw [Int.mul_comm (y % 4294967296), Int.mul_comm (i % 4294967296)]
set_option maxRecDepth 10000 in
set_option maxHeartbeats 400000 in
theorem refRand_any (y i m : Int) (w : World) (hm : 1 ≤ m) (hm2 : m ≤ 9223372036854775807) :
    Calls Tryd.prog 12 #[.int .i64 y, .int .i64 i, .int .i64 m] w fun e w' => e = .returned (.int .i64 (rz y i % m)) ∧ w = w' := by
  have HE := Lib.hid (rz_end y i m hm hm2)
  have HS := Lib.hid (rz_swap y i)
  go_enter Tryd.func12, Tryd.ntmps12
  go_wp2
  go_ret
  exact ⟨ret_int (by rw [← HE.out, HS.out]; rfl), rfl⟩
set_option maxRecDepth 10000 in
set_option maxHeartbeats 400000 in
theorem refRand_none (y i m : Int) (w : World) (hm : m < 1) :
    Calls Tryd.prog 12 #[.int .i64 y, .int .i64 i, .int .i64 m] w fun e w' => e = .returned (.int .i64 0) ∧ w = w' := by
  go_enter Tryd.func12, Tryd.ntmps12
  go_wp2
  go_ret
  exact ⟨rfl, rfl⟩

def bnds : List Int := [5243, 529531, 704294, 791675, 844104, 879057, 904023, 922747, 937311, 948962, 958494, 966438, 973160, 978921, 983914, 988283, 992138, 995565, 998631, 1001391, 1003887, 1006157, 1008229, 1010129, 1011876, 1013490, 1014983, 1016370, 1017662, 1048576]
def bndsV : Array Value := (bnds.map fun z => Value.int .i64 z).toArray
theorem run_index_in {P : Program} (t e : TypeId) (n : Nat) (i : TypeInfo) (cs : Array Value) (k : IntKind) (j : Nat) (v : Value) (h : P.underlying t = some (.array n e)) (hi : P.info? e = some i) (hs : i.size = 1) (hj : j < n) (hv : cs[j]? = some v) (hk : P.underlying e = some (.int .i64)) (w : World) :
    (Instr.index t (.agg cs) (.int k (j : Int))).run P w = .ok v w := by
  have hlt := (Array.getElem?_eq_some_iff.1 hv).1
  simp [Instr.index, run_underlying h, asIntOf, sizeOf, typeInfo, hi, hs, hj, part, isAgg, run_underlying hk, hv]

/-- how many of the first k bounds v has reached. -/
def cnt (v : Int) : Nat → Nat
  | 0 => 0
  | k + 1 => if bnds.getD k 0 ≤ v then cnt v k + 1 else cnt v k
theorem cnt_le (v : Int) : ∀ k, cnt v k ≤ k
  | 0 => Nat.le_refl _
  | k + 1 => by have := cnt_le v k; simp only [cnt]; split <;> omega
def deg0 (v : Int) : Nat := min (1 + cnt v 30) 30
def degS (v w : Int) : Int := if w < (deg0 v : Int) + 2 then (max w 3) - 2 else deg0 v

end Go.Proofs.YtlmnijcocfjpoaaDoor
