/-
  rillref09: Encode of a right record.
-/
import Derived.Test.YtopnjjehefaghaaDoorMMeT
namespace Go.Proofs.YtopnjjehefaghaaDoor
open Go.RowKit

theorem own_lit2M (w : World) (x y : Int) : (w.alloc (.cells #[.int .u8 x, .int .u8 y] 5)).ownsRow w.heap.size 5 1 (.slice (some ⟨w.heap.size, 0, none⟩) 2 2) 2 [.int .u8 x, .int .u8 y] :=
  ⟨rfl, .inr ⟨w.heap.size, 2, #[.int .u8 x, .int .u8 y], rfl, Nat.le_refl _, heap_alloc_new w _, by decide, by decide, rfl, rfl⟩⟩
theorem u8_small (n : Int) (h0 : 0 ≤ n) (h : n < 256) : IntKind.u8.wrap n = ((n.toNat % 256 : Nat) : Int) := by
  simp [IntKind.wrap, IntKind.bits, IntKind.signed]
  omega
theorem own_belowM {w w' : World} {B n s : Nat} {T : TypeId} {v : Value} {xs : List Value} (h : w.ownsRow B T s v n xs) (hb : Below w.heap.size w w') : w'.ownsRow B T s v n xs := by
  refine ⟨h.1, ?_⟩
  rcases h.2 with e | ⟨g, cp, cur, e, hg, hh, rest⟩
  · exact .inl e
  · exact .inr ⟨g, cp, cur, e, hg, (hb.block g (Array.getElem?_eq_some_iff.1 hh).1).trans hh, rest⟩
theorem rowV_four {w : World} {g : Nat} {a b c d : Nat} {fr : Nat × Nat} (h : w.heap[g]? = some (.cells #[.int .u8 (a : Nat), .int .u8 (b : Nat), .int .u8 (c : Nat), .int .u8 (d : Nat)] 5 fr)) : RowV w (some ⟨g, 0, none⟩) 4 ([a, b, c, d].map bv) :=
  ⟨rfl, fun _ => ⟨g, 0, rfl, fun i hi => by
    rw [cell_of_row _ _ _ _ _ _ h]
    rcases (by omega : i = 0 ∨ i = 1 ∨ i = 2 ∨ i = 3) with rfl | rfl | rfl | rfl <;> rfl⟩⟩
end Go.Proofs.YtopnjjehefaghaaDoor
