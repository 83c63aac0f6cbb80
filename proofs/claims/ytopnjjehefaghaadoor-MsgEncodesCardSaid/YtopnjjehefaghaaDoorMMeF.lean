/-
  meta: Encode of a key's end.
-/
import Derived.Laws.IdiomStrings
import Derived.Test.YtopnjjehefaghaaDoorMMeE
namespace Go.Proofs.YtopnjjehefaghaaDoor
open Go.RowKit

theorem no_gk {w : World} {b : Nat} : ∀ g, (none : Option Nat) = some g → g < w.heap.size ∧ g ≠ b := fun g hg => by cases hg

theorem key_bytes (w : World) : ∃ (c : Nat) (C : Array Value) (fr : Nat × Nat), (convert 9 24 (.string keyK)).run Tryd.prog w = .ok (.slice (some ⟨w.heap.size, 0, none⟩) 1 c) (w.drew.alloc (.cells C 5 fr)) ∧ C[0]? = some (.int .u8 107) := by
  have h := run_bytes_of_string (P := Tryd.prog) w 9 24 5 keyK Tryd.underlying9 Tryd.underlying24 Tryd.underlying5
  exact ⟨_, _, _, h, by unfold bytesRow keyK; rw [Array.getElem?_append_left (by simp)]; simp⟩

end Go.Proofs.YtopnjjehefaghaaDoor
