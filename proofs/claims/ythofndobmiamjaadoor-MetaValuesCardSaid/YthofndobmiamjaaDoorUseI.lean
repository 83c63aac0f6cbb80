/-
  Slices of ints, and SameInts.
-/
import Derived.Test.YthofndobmiamjaaDoorRows
import Derived.Test.YthofndobmiamjaaDoorMem
import Derived.WalkSpells
import Derived.WalkLawsBesides
import Derived.BigQuiet
import Derived.Deep.QuietTactic
import Derived.Lib.Hide
namespace Go.Proofs.YthofndobmiamjaaDoor
open Go.RowKit

/-- One slice of ints, not too long. -/
structure IntsV (w : World) (x : Option Addr × Nat × Nat) (l : List Int) : Prop where
  row : RowV w x.1 x.2.1 (l.map iv)
  small : x.2.1 ≤ 140737488355328
  cap : x.2.1 ≤ x.2.2
  nil : x.1 = none → x.2.2 = 0
theorem IntsV.length {w : World} {x : Option Addr × Nat × Nat} {l : List Int} (h : IntsV w x l) : l.length = x.2.1 := by have := h.row.1; simpa using this
theorem IntsV.below {w w' : World} {x : Option Addr × Nat × Nat} {l : List Int} (h : IntsV w x l) (hb : Below w.heap.size w w') : IntsV w' x l := ⟨h.row.below hb, h.small, h.cap, h.nil⟩
theorem IntsV.alloc {w : World} {x : Option Addr × Nat × Nat} {l : List Int} {o : Obj} (h : IntsV w x l) : IntsV (w.alloc o) x l := h.below (below_alloc w o)
theorem ext_getDi {a b : List Int} (hl : a.length = b.length) (h : ∀ i, i < a.length → a.getD i 0 = b.getD i 0) : a = b := by
  apply List.ext_getElem hl
  intro i h1 h2
  have := h i h1
  simpa [List.getD_eq_getElem?_getD, List.getElem?_eq_getElem h1, List.getElem?_eq_getElem h2] using this
theorem below_drewNi {B : Nat} {a w : World} (h : Below B a w) : ∀ n, Below B a (w.drewN n)
  | 0 => h
  | n + 1 => (below_drewNi h n).drew



end Go.Proofs.YthofndobmiamjaaDoor
