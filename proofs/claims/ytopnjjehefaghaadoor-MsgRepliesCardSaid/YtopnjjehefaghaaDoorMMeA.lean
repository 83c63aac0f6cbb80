/-
  meta: what the laws' 'alive' asks of a key's end.
-/
import Derived.Test.YtopnjjehefaghaaDoorRows
import Derived.WalkKit
import Derived.WalkSpells
import Derived.WalkLawsBesides
import Derived.Laws.Rows
import Derived.Laws.Tables
import Derived.Lib.Hide
import Derived.Test.YtopnjjehefaghaaDoorMBase
namespace Go.Proofs.YtopnjjehefaghaaDoor
open Go.RowKit

/-- the meta of a key's end, with tag 1. -/
def dead1 : Array Value := #[.int .i64 1, .int .i64 0, .int .i64 0, .int .i64 0, .bool true, .slice none 0 0]

set_option maxRecDepth 10000 in
theorem rightTag_one (w : World) : Calls Tryd.prog 62 #[.agg #[.int .i64 1, .int .i64 0]] w fun e w' => e = .returned (.bool true) ∧ Below w.heap.size w w' := by
  go_enter Tryd.func62, Tryd.ntmps62
  go_wp2
  go_ret
  exact ⟨rfl, below_alloc _ _⟩

theorem trans_allocM {n : Nat} {w w1 w2 : World} {o : Obj} (h : Below n w w1) (hb : Below (w1.alloc o).heap.size (w1.alloc o) w2) (hn : n ≤ w1.heap.size) : Below n w w2 :=
  (h.alloc hn o).trans (hb.mono (Nat.le_trans hn (by simp)))
theorem trans_belowM {n : Nat} {w w1 w2 : World} (h : Below n w w1) (hb : Below w1.heap.size w1 w2) (hn : n ≤ w1.heap.size) : Below n w w2 := h.trans (hb.mono hn)

set_option maxRecDepth 10000 in
set_option maxHeartbeats 1000000 in
theorem check_dead (w : World) : Calls Tryd.prog 42 #[.agg dead1] w fun e w' => e = .returned (.int .i64 0) ∧ Below w.heap.size w w' := by
  have KR := rightTag_one
  unfold dead1
  go_enter Tryd.func42, Tryd.ntmps42
  go_wp2_with (first
    | (go_at_call 62; (with_reducible refine (KR _).mono ?_); rintro e w1 ⟨rfl, hb1⟩))
  go_ret
  exact ⟨rfl, trans_allocM (Below.refl _ _) hb1 (Nat.le_refl _)⟩

theorem key_k (w : World) (s : ByteArray) (hs : s.size = 1) : Calls Tryd.prog 65 #[.string s] w fun e w' => e = .returned (.bool true) ∧ w' = w := by
  go_enter Tryd.func65, Tryd.ntmps65
  go_wp2
  go_ret
  exact ⟨rfl, rfl⟩

end Go.Proofs.YtopnjjehefaghaaDoor
