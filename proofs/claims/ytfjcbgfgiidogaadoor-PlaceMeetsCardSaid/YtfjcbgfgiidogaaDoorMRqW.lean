/-
  rilllaw04: RqSource.
-/
import Derived.Test.YtfjcbgfgiidogaaDoorMRqV
namespace Go.Proofs.YtfjcbgfgiidogaaDoor
open Go.RowKit

theorem and_31 (a : Int) : ∃ i : Nat, bits .and .i64 a 31 = (i : Int) ∧ i < 32 := by
  have h : (BitVec.ofInt 64 a &&& BitVec.ofInt 64 31).toNat < 32 := by
    rw [BitVec.toNat_and]
    exact Nat.lt_of_le_of_lt Nat.and_le_right (by decide)
  refine ⟨(BitVec.ofInt 64 a &&& BitVec.ofInt 64 31).toNat, ?_, h⟩
  show IntKind.i64.wrap ((BitVec.ofInt 64 a &&& BitVec.ofInt 64 31).toNat : Int) = _
  generalize (BitVec.ofInt 64 a &&& BitVec.ofInt 64 31).toNat = m at h ⊢
  unfold IntKind.wrap
  simp [IntKind.bits, IntKind.signed]
  omega
/-- the numbers of a source, turned. -/
def turnL (k r m : Nat) : List Int := (List.range m).map fun i => (((i + r) % k : Nat) : Int)
theorem turnL_succ (k r m : Nat) : turnL k r m ++ [(((m + r) % k : Nat) : Int)] = turnL k r (m + 1) := by unfold turnL; rw [List.range_succ, List.map_append]; rfl
theorem turnL_length (k r m : Nat) : (turnL k r m).length = m := by simp [turnL]
theorem turnL_at {k r m i : Nat} (h : i < m) : (turnL k r m)[i]? = some (((i + r) % k : Nat) : Int) := by
  unfold turnL; rw [List.getElem?_map, List.getElem?_range h, Option.map_some]
theorem turnL_mem {k r x : Nat} (hr : r < 32) (hx : x < k) : ((x : Nat) : Int) ∈ turnL k r k := by
  have hk : 0 < k := by omega
  refine List.mem_map.2 ⟨(x + 32 * k - r) % k, List.mem_range.2 (Nat.mod_lt _ hk), ?_⟩
  have h32 : r ≤ 32 * k := by
    have : 32 * 1 ≤ 32 * k := Nat.mul_le_mul_left 32 hk
    omega
  have e : ((x + 32 * k - r) % k + r) % k = x := by
    rw [Nat.mod_add_mod, show x + 32 * k - r + r = x + 32 * k by omega, Nat.add_mul_mod_self_right, Nat.mod_eq_of_lt hx]
  rw [e]
theorem turnL_ok {k r m : Nat} (hk : 0 < k) (hk2 : k ≤ 32) : ∀ e ∈ turnL k r m, okE e = true := fun e he => by
  obtain ⟨i, -, rfl⟩ := List.mem_map.1 he
  have := Nat.mod_lt (i + r) hk
  exact okE_iff.2 ⟨by omega, by omega⟩
theorem sym_src {src X : List (List Nat)} {k : Nat} (hs : ∀ x, x < k → mixS X (placeR k x) = src.getD x []) {x : Nat} (hx : x < k) : pieceOf k X (x : Int) = ((x : Int), src.getD x []) := by
  unfold pieceOf symR
  rw [Int.toNat_natCast, if_pos hx, hs x hx]

end Go.Proofs.YtfjcbgfgiidogaaDoor
