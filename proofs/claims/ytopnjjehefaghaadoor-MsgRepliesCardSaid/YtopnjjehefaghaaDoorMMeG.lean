/-
  meta: Earlier, Next; the laws' 'alive'.
-/
import Derived.Test.YtopnjjehefaghaaDoorMMeF
namespace Go.Proofs.YtopnjjehefaghaaDoor
open Go.RowKit

theorem ret_boolM {a b : Bool} (h : a = b) : Ending.returned (.bool a) = .returned (.bool b) := by rw [h]
/-- is the one tag earlier? -/
def lt (a b : Int × Int) : Prop := a.1 < b.1 ∨ a.1 = b.1 ∧ a.2 < b.2
instance (a b : Int × Int) : Decidable (lt a b) := by unfold lt; infer_instance
def tagV (a : Int × Int) : Value := .agg #[.int .i64 a.1, .int .i64 a.2]


def nextN (n : Int) : Int := min (max n 0) 2147483647 + 1
theorem loadVar_tag (w : World) (g : Nat) (cs : Array Value) (hg : w.heap[g]? = some (.cells cs 23 (0, 0))) (hs : cs.size = 2) : (loadVar 23 ⟨g, 0, none⟩).run Tryd.prog w = .ok (.agg cs) w :=
  run_loadVar_row w g 23 23 cs (0, 0) _ hg Tryd.underlying23 rfl (by rw [hs]; kernel_rfl)
theorem two_allocM (w : World) (A B : Obj) : ((w.alloc A).alloc B).heap[w.heap.size + 1]? = some B := by
  have := heap_alloc_new (w.alloc A) B
  simpa using this

end Go.Proofs.YtopnjjehefaghaaDoor
