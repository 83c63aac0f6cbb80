/-
  meta: right, of any record.
-/
import Derived.Test.YtopnjjehefaghaaDoorMMeN
namespace Go.Proofs.YtopnjjehefaghaaDoor
open Go.RowKit

def fitsB (k N c s t : Int) (d : Bool) (sn pn : Nat) : Bool :=
  if k = 1 then metaB N c s t d sn && !d else if k = 2 then metaB N c s t d sn && decide ((pn : Int) = 0) else if k = 3 then aloneB N c s t d sn && decide (0 < (pn : Int)) else if k = 4 then aloneB N c s t d sn && decide (0 < (pn : Int)) else false
def slotsOf (k : Int) : Int := if k = 4 then 1 else 512
def sumOf (k : Int) : Int := if k = 4 then 0 else 32
def rightB (k : Int) (key : ByteArray) (N c s t : Int) (d : Bool) (sn : Nat) (P : Nat → PlR) (pn : Nat) : Bool :=
  fitsB k N c s t d sn pn && (keyB key.size && (decide ((pn : Int) ≤ 512) && !(someWrong (slotsOf k) (sumOf k) P pn)))
theorem alloc_szM (w : World) (o : Obj) : (w.alloc o).heap.size = w.heap.size + 1 := by simp
theorem check_yes {N c s t : Int} {d : Bool} {sa : Option Addr} {sn sc : Nat} (h : metaB N c s t d sn = true) (w : World) :
    Calls Tryd.prog 42 #[.agg #[.int .i64 N, .int .i64 c, .int .i64 s, .int .i64 t, .bool d, .slice sa sn sc]] w fun e w' => e = .returned (.int .i64 0) ∧ Below w.heap.size w w' := by
  have := check_any N c s t d sa sn sc w; rwa [if_pos h] at this
theorem check_no {N c s t : Int} {d : Bool} {sa : Option Addr} {sn sc : Nat} (h : metaB N c s t d sn = false) (w : World) :
    Calls Tryd.prog 42 #[.agg #[.int .i64 N, .int .i64 c, .int .i64 s, .int .i64 t, .bool d, .slice sa sn sc]] w fun e w' => e = .returned (.int .i64 90) ∧ Below w.heap.size w w' := by
  have := check_any N c s t d sa sn sc w; rwa [if_neg (by rw [h]; decide)] at this
end Go.Proofs.YtopnjjehefaghaaDoor
