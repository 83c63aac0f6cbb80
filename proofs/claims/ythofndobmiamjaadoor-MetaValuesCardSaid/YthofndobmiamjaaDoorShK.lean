/-
  sha's reference: turn; a block's 64 words.
-/
import Derived.Test.YthofndobmiamjaaDoorShJ
namespace Go.Proofs.YthofndobmiamjaaDoor
open Go.RowKit

set_option maxRecDepth 100000 in
set_option maxHeartbeats 4000000 in
theorem turn_any (v n : Nat) (hv : v < 4294967296) (h0 : 0 < n) (hn : n < 32) (w : World) :
    Calls Tryd.prog 33 #[.int .u32 (v : Nat), .int .u64 (n : Nat)] w fun e w' => e = .returned (.int .u32 (rotr v n : Nat)) ∧ w' = w := by
  go_enter Tryd.func33, Tryd.ntmps33
  go_wp2
  go_ret
  refine ⟨?_, rfl⟩
  have e1 : (v : Int) / 2 ^ n = ((v / 2 ^ n : Nat) : Int) := by simp
  have e2 : (v : Int) * 2 ^ (32 - n) % 4294967296 = ((v * 2 ^ (32 - n) % 4294967296 : Nat) : Int) := by simp
  have e3 : bits .or .u32 ((v : Int) / 2 ^ n) ((v : Int) * 2 ^ (32 - n) % 4294967296) = ((rotr v n : Nat) : Int) := by
    rw [e1, e2, u32_or_nat _ _ (Nat.lt_of_le_of_lt (Nat.div_le_self _ _) hv) (Nat.mod_lt _ (by decide))]
    unfold rotr
    rw [Nat.or_comm]
  show Ending.returned (Value.int .u32 (bits .or .u32 ((v : Int) / 2 ^ n) ((v : Int) * 2 ^ (32 - n) % 4294967296))) = _
  rw [e3]
/-- a block's words, one by one, as the document makes them. -/
def sched (ws : List Nat) : Nat → List Nat
  | 0 => ws
  | n + 1 => sched ws n ++ [add32 (add32 (add32 (g' (sched ws n) n) (sig0 (g' (sched ws n) (n + 1)))) (g' (sched ws n) (n + 9))) (sig1 (g' (sched ws n) (n + 14)))]
theorem sched_len (ws : List Nat) (h : ws.length = 16) : ∀ n, (sched ws n).length = 16 + n
  | 0 => h
  | n + 1 => by simp [sched, sched_len ws h n]; omega
theorem add32_comm3 (a b c d : Nat) : add32 (add32 (add32 a c) b) d = add32 (add32 (add32 a b) c) d := by
  unfold add32
  omega
theorem sched_shift (st ws : List Nat) (h : ws.length = 16) : ∀ n, (sched ws n).drop n = (roundsR st ws n).2
  | 0 => rfl
  | n + 1 => by
    have ih := sched_shift st ws h n
    have hl := sched_len ws h n
    have hg : ∀ i, i < 16 → g' (roundsR st ws n).2 i = g' (sched ws n) (n + i) := fun i hi => by
      rw [← ih]
      unfold g'
      rw [List.getD_eq_getElem?_getD, List.getD_eq_getElem?_getD, List.getElem?_drop]
    show _ = shiftR (roundsR st ws n).2
    unfold shiftR furtherR
    rw [hg 0 (by decide), hg 9 (by decide), hg 1 (by decide), hg 14 (by decide), ← ih]
    simp only [sched, Nat.add_zero]
    rw [List.drop_append_of_le_length (by omega), List.drop_drop, add32_comm3]
theorem sched_at (st ws : List Nat) (h : ws.length = 16) (m : Nat) : ∀ n, n < m → g' (sched ws m) n = g' (roundsR st ws n).2 0 := by
  have hk : ∀ k n, n < 16 + k → g' (sched ws (k + 1)) n = g' (sched ws k) n := fun k n hn => by
    unfold g'
    simp only [sched]
    rw [List.getD_eq_getElem?_getD, List.getD_eq_getElem?_getD, List.getElem?_append_left (by rw [sched_len ws h k]; exact hn)]
  have hm : ∀ d n, g' (sched ws (n + d)) n = g' (sched ws n) n := by
    intro d
    induction d with
    | zero => intro n; rfl
    | succ d ih => intro n; rw [← Nat.add_assoc, hk (n + d) n (by omega), ih n]
  intro n hn
  obtain ⟨d, rfl⟩ : ∃ d, m = n + d := ⟨m - n, by omega⟩
  rw [hm d n, ← sched_shift st ws h n]
  unfold g'
  rw [List.getD_eq_getElem?_getD, List.getD_eq_getElem?_getD, List.getElem?_drop, Nat.add_zero]
end Go.Proofs.YthofndobmiamjaaDoor
