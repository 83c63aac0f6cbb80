/-
  disk: a disk as a value; power.
-/
import Derived.Test.YtdidalcflkphnaaFrC
import Derived.Test.YtdidalcflkphnaaUse2
namespace Go.Proofs.Ytdidalcflkphnaa
open Go.RowKit

/-- a slot: the bytes that are safe, those that are read, and whether it was written since. -/
abbrev Slot := List Nat × List Nat × Bool
/-- a disk. -/
structure DV where
  pow : Int
  safe : List Nat
  read : List Nat
  base : Nat
  laid : Bool
  sl : List Slot
/-- power for one call: what is left of it, and the error. -/
def spendV (p : Int) : Int × Int := if p = 0 then (0, 81) else if 0 < p then (p - 1, 0) else (p, 0)
set_option maxRecDepth 100000 in
set_option maxHeartbeats 4000000 in
theorem spend_any (g : Nat) (p : Int) (w : World) (hp : w.cell? ⟨g, 0, none⟩ = some (.int .i64 p)) (hf : w.frozen? ⟨g, 0, none⟩ = false) (hr : p ≤ 9223372036854775807) :
    Calls Try.prog 44 #[.pointer (some ⟨g, 0, none⟩)] w fun e w' => e = .returned (.int .i64 (spendV p).2) ∧ w' = if 0 < p then w.setCell ⟨g, 0, none⟩ (.int .i64 (spendV p).1) else w := by
  unfold spendV
  by_cases h0 : p = 0
  · subst h0
    go_enter Try.func44, Try.ntmps44
    go_wp2
    go_ret
    exact ⟨rfl, rfl⟩
  · have h0b : (p == 0) = false := beq_eq_false_iff_ne.2 h0
    rw [if_neg h0]
    by_cases h1 : 0 < p
    · rw [if_pos h1, if_pos h1]
      have hw : wrap64 (p - 1) = p - 1 := IntWalk.wrap64_in _ (by omega)
      go_enter Try.func44, Try.ntmps44
      go_wp2
      go_ret
      exact ⟨rfl, rfl⟩
    · rw [if_neg h1, if_neg h1]
      go_enter Try.func44, Try.ntmps44
      go_wp2
      go_ret
      exact ⟨rfl, rfl⟩
end Go.Proofs.Ytdidalcflkphnaa
