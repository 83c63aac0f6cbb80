/-
  Several cells of a box stored one behind the other, as one thing. Nothing of a program in sight.
-/
import Derived.Test.YtopnjjehefaghaaDoorMMe1
namespace Go.Proofs.YtopnjjehefaghaaDoor
open Go.RowKit

def setsFrom (w : World) (g : Nat) : Nat → List Value → World
  | _, [] => w
  | i, v :: vs => setsFrom (w.setCell ⟨g, i, none⟩ v) g (i + 1) vs
def listSets (l : List Value) : Nat → List Value → List Value
  | _, [] => l
  | i, v :: vs => listSets (l.set i v) (i + 1) vs
theorem heap_setsFrom' {g : Nat} {T : TypeId} : ∀ (vs : List Value) (i : Nat) (w : World) (l : List Value), w.heap[g]? = some (.cells l.toArray T (0, 0)) → (setsFrom w g i vs).heap[g]? = some (.cells (listSets l i vs).toArray T (0, 0))
  | [], _, _, _, h => h
  | v :: vs, i, w, l, h => heap_setsFrom' vs (i + 1) _ _ (by have := heap_setCell_same w g i l.toArray T v h; rw [List.setIfInBounds_toArray] at this; exact this)
theorem heap_setsFrom {g : Nat} {T : TypeId} {w : World} {l l' : List Value} (i : Nat) (vs : List Value) (h : w.heap[g]? = some (.cells l.toArray T (0, 0))) (he : listSets l i vs = l') : (setsFrom w g i vs).heap[g]? = some (.cells l'.toArray T (0, 0)) := by
  rw [← he]
  exact heap_setsFrom' vs i w l h
theorem grown_setsFrom {g : Nat} : ∀ (vs : List Value) (i : Nat) (w : World), w.grownBy (setsFrom w g i vs) (some g)
  | [], _, _ => ⟨rfl, rfl, rfl, Nat.le_refl _, fun _ _ _ => rfl⟩
  | v :: vs, i, w => World.grownBy.trans (grownBy_setCellM w ⟨g, i, none⟩ v) (grown_setsFrom vs (i + 1) _)
theorem setsFrom_other {w : World} {g k : Nat} (vs : List Value) (i : Nat) (h : k < w.heap.size) (hk : k ≠ g) : (setsFrom w g i vs).heap[k]? = w.heap[k]? :=
  (grown_setsFrom vs i w).block k h (fun e => hk (by injection e))
theorem setsFrom_below {B : Nat} {u w : World} {g : Nat} (vs : List Value) (i : Nat) (h : Below B u w) (hs : B ≤ w.heap.size) (hg : B ≤ g) : Below B u (setsFrom w g i vs) :=
  h.grown (grown_setsFrom vs i w) hs (fun k hk => by injection hk with hk; omega)
theorem str_beq_true {a b : ByteArray} (h : a = b) : (a.toList == b.toList) = true := by rw [h]; exact beq_self_eq_true _
theorem str_beq_false {a b : ByteArray} (h : ¬ a = b) : (a.toList == b.toList) = false := by
  rw [ByteArray.toList_eq, ByteArray.toList_eq]
  exact beq_eq_false_iff_ne.2 (fun e => h (ByteArray.ext (Array.ext' e)))
end Go.Proofs.YtopnjjehefaghaaDoor
