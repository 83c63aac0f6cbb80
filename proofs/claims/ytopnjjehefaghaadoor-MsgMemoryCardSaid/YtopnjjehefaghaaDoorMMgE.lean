/-
  msg: is a message right?
-/
import Derived.Test.YtopnjjehefaghaaDoorMMgD
namespace Go.Proofs.YtopnjjehefaghaaDoor
open Go.RowKit

/-- the conditions of a right message, in their order. -/
def cnd (M : MsR) : Nat → Bool
  | 0 => decide (1 ≤ M.k)
  | 1 => decide (M.k ≤ 10)
  | 2 => wiB M.f 11
  | 3 => wiB M.t 11
  | 4 => wiB M.op 2147483647
  | 5 => wiB M.cd 2147483647
  | 6 => decide (M.key.size ≤ 32)
  | 7 => metaOk M.m || noneB M.m
  | 8 => decide (M.sy.length ≤ 512)
  | 9 => !M.sy.any wrongS
  | 10 => decide (M.it.length ≤ 100)
  | 11 => !M.it.any wrongI
  | _ => true
def rightM (M : MsR) : Bool := (List.range 12).all (cnd M)
theorem rightM_yes {M : MsR} (h : ∀ i, i < 12 → cnd M i = true) : rightM M = true := List.all_eq_true.2 fun i hi => h i (List.mem_range.1 hi)
theorem rightM_no {M : MsR} (i : Nat) (hi : i < 12) (h : cnd M i = false) : rightM M = false := by
  cases e : rightM M with
  | false => rfl
  | true => rw [List.all_eq_true.1 e i (List.mem_range.2 hi)] at h; cases h
/-- the box of a message that was handed in. -/
theorem msg_box {w W : World} {M : MsR} {xa : Option Addr} {xn xc : Nat} {sa : Option Addr} {sc : Nat} {ia : Option Addr} {ic : Nat} (hb : Below (w.alloc (.cells (MsC M (xa, xn, xc) sa sc ia ic) MMT)).heap.size (w.alloc (.cells (MsC M (xa, xn, xc) sa sc ia ic) MMT)) W) : W.heap[w.heap.size]? = some (.cells (MsC M (xa, xn, xc) sa sc ia ic) MMT (0, 0)) := (hb.block _ (by simp)).trans (heap_alloc_new w _)
end Go.Proofs.YtopnjjehefaghaaDoor
