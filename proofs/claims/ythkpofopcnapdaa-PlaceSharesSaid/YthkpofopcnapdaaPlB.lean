/-
  place: the reference's Check.
-/
import Derived.Test.YthkpofopcnapdaaPlB0
import Derived.Test.YthkpofopcnapdaaPlB1
import Derived.Test.YthkpofopcnapdaaPlB2
import Derived.Test.YthkpofopcnapdaaPlB3
import Derived.Test.YthkpofopcnapdaaPlB4
import Derived.Test.YthkpofopcnapdaaPlB5
import Derived.Test.YthkpofopcnapdaaPlB6
namespace Go.Proofs.Ythkpofopcnapdaa
open Go.RowKit

theorem refCheck_any (n u r c t s : Int) (w : World) (hu : -9223372036854775808 ≤ u ∧ u ≤ 9223372036854775807) (hr : -9223372036854775808 ≤ r ∧ r ≤ 9223372036854775807) :
    Calls Try.prog 11 #[cfg n u r c t s] w fun e w' => e = .returned (.int .i64 (chk n u r c t s)) ∧ Below w.heap.size w w' := by
  by_cases a0 : 1 ≤ n
  rotate_left 1
  · rw [chk_bad (by unfold Good; omega)]
    exact refCheck_no0 n u r c t s w hu hr  (by omega)
  by_cases a1 : n ≤ 8
  rotate_left 1
  · rw [chk_bad (by unfold Good; omega)]
    exact refCheck_no1 n u r c t s w hu hr a0 (by omega)
  by_cases a2 : 1 ≤ u
  rotate_left 1
  · rw [chk_bad (by unfold Good; omega)]
    exact refCheck_no2 n u r c t s w hu hr a0 a1 (by omega)
  by_cases a3 : u ≤ n
  rotate_left 1
  · rw [chk_bad (by unfold Good; omega)]
    exact refCheck_no3 n u r c t s w hu hr a0 a1 a2 (by omega)
  by_cases a4 : 1 ≤ r
  rotate_left 1
  · rw [chk_bad (by unfold Good; omega)]
    exact refCheck_no4 n u r c t s w hu hr a0 a1 a2 a3 (by omega)
  by_cases a5 : r ≤ n
  rotate_left 1
  · rw [chk_bad (by unfold Good; omega)]
    exact refCheck_no5 n u r c t s w hu hr a0 a1 a2 a3 a4 (by omega)
  by_cases a6 : n < u + r
  rotate_left 1
  · rw [chk_bad (by unfold Good; omega)]
    exact refCheck_no6 n u r c t s w hu hr a0 a1 a2 a3 a4 a5 (by omega)
  by_cases a7 : 1 ≤ c
  rotate_left 1
  · rw [chk_bad (by unfold Good; omega)]
    exact refCheck_no7 n u r c t s w hu hr a0 a1 a2 a3 a4 a5 a6 (by omega)
  by_cases a8 : c ≤ 4
  rotate_left 1
  · rw [chk_bad (by unfold Good; omega)]
    exact refCheck_no8 n u r c t s w hu hr a0 a1 a2 a3 a4 a5 a6 a7 (by omega)
  by_cases a9 : 1 ≤ t
  rotate_left 1
  · rw [chk_bad (by unfold Good; omega)]
    exact refCheck_no9 n u r c t s w hu hr a0 a1 a2 a3 a4 a5 a6 a7 a8 (by omega)
  by_cases a10 : t ≤ 64
  rotate_left 1
  · rw [chk_bad (by unfold Good; omega)]
    exact refCheck_no10 n u r c t s w hu hr a0 a1 a2 a3 a4 a5 a6 a7 a8 a9 (by omega)
  by_cases a11 : 1 ≤ s
  rotate_left 1
  · rw [chk_bad (by unfold Good; omega)]
    exact refCheck_no11 n u r c t s w hu hr a0 a1 a2 a3 a4 a5 a6 a7 a8 a9 a10 (by omega)
  by_cases a12 : s ≤ 512
  rotate_left 1
  · rw [chk_bad (by unfold Good; omega)]
    exact refCheck_no12 n u r c t s w hu hr a0 a1 a2 a3 a4 a5 a6 a7 a8 a9 a10 a11 (by omega)
  rw [chk_good (by unfold Good; omega)]
  exact refCheck_yes n u r c t s w hu hr a0 a1 a2 a3 a4 a5 a6 a7 a8 a9 a10 a11 a12
end Go.Proofs.Ythkpofopcnapdaa
