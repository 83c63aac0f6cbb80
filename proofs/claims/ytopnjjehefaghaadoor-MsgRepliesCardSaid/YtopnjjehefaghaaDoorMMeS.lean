/-
  rillref09: good.
-/
import Derived.Test.YtopnjjehefaghaaDoorMMeR
namespace Go.Proofs.YtopnjjehefaghaaDoor
open Go.RowKit

/-- a place as the reference asks: not so. -/
def badP (U : Int) (p : PlR) : Bool := decide (p.b < 0 ∨ 1023 < p.b ∨ p.e < 0 ∨ 16777216 ≤ p.e ∨ p.s < 0 ∨ 511 < p.s ∨ (p.x.2.1 : Int) ≠ U ∨ (U = 0 ∧ p.s ≠ 0))
theorem badP_32 {k : Int} (hk : ¬ k = 4) (p : PlR) : badP 32 p = wrongB (slotsOf k) (sumOf k) p := by
  unfold badP wrongB slotsOf sumOf belowB
  rw [if_neg hk, if_neg hk, Bool.eq_iff_iff]
  simp
  omega
theorem badP_0 (p : PlR) : badP 0 p = wrongB (slotsOf 4) (sumOf 4) p := by
  unfold badP wrongB slotsOf sumOf belowB
  rw [if_pos rfl, if_pos rfl, Bool.eq_iff_iff]
  simp
  omega
theorem below_transM {a b c : World} (h : Below a.heap.size a b) (k : Below b.heap.size b c) : Below a.heap.size a c := h.trans (k.mono h.size)
theorem alone_split (N c s t : Int) (d : Bool) (n : Nat) : aloneB N c s t d n = (tagB N c && al4 s t d n) := rfl
end Go.Proofs.YtopnjjehefaghaaDoor
