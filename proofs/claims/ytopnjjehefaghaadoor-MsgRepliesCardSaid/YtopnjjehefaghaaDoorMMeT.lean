/-
  rillref09: put.
-/
import Derived.Test.YtopnjjehefaghaaDoorMMeS
namespace Go.Proofs.YtopnjjehefaghaaDoor
open Go.RowKit

theorem rowV_oneM {w : World} {g : Nat} {x : Nat} {fr : Nat × Nat} (h : w.heap[g]? = some (.cells #[.int .u8 (x : Nat)] 5 fr)) : RowV w (some ⟨g, 0, none⟩) 1 ([x].map bv) :=
  ⟨rfl, fun _ => ⟨g, 0, rfl, fun i hi => by
    have h0 : i = 0 := by omega
    subst h0
    rw [cell_of_row _ _ _ _ _ _ h]; rfl⟩⟩
def KeepT (w w' : World) : Prop := ∀ (q : Nat) (xs : Array Value) (T : TypeId) (fr : Nat × Nat), T ≠ 5 → w.heap[q]? = some (Obj.cells xs T fr) → w'.heap[q]? = some (Obj.cells xs T fr)
theorem KeepT.refl (w : World) : KeepT w w := fun _ _ _ _ _ h => h
theorem KeepT.trans {w w1 w2 : World} (h : KeepT w w1) (k : KeepT w1 w2) : KeepT w w2 := fun q xs T fr hT hh => k q xs T fr hT (h q xs T fr hT hh)
theorem KeepT.below {w w' : World} (h : Below w.heap.size w w') : KeepT w w' := fun q _ _ _ _ hh => (h.block q (Array.getElem?_eq_some_iff.1 hh).1).trans hh
theorem KeepT.grown {w w' : World} {base n : Nat} {v : Value} {l : List Value} (h : w.ownsRow base 5 1 v n l) (hg : w.grownBy w' v.ownBlock) : KeepT w w' := fun q xs T fr hT hh => by
  refine (hg.block q (Array.getElem?_eq_some_iff.1 hh).1 ?_).trans hh
  intro e
  rcases h.2 with ⟨e1, _⟩ | ⟨g, cp, cur, e1, _, hb, _⟩
  · rw [e1] at e; cases e
  · rw [e1] at e
    obtain rfl : q = g := by injection e
    rw [hb] at hh
    injection hh with hh
    injection hh with _ hh
    exact hT hh.symm
end Go.Proofs.YtopnjjehefaghaaDoor
