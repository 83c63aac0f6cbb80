/-
  meta's reader: a number.
-/
import Derived.Test.YtikjcmijmhmilaaMfC
namespace Go.Proofs.Ytikjcmijmhmilaa
open Go.RowKit

set_option maxRecDepth 100000 in
set_option maxHeartbeats 8000000 in
theorem number_no (b m : Nat) (ad : Option Addr) (n c : Nat) (w : World) (hh : w.heap[b]? = some (.cells #[.slice ad n c] RT1 (0, 0))) (hm : n < m) :
    Calls Try.prog 49 #[.pointer (some ⟨b, 0, none⟩), .int .i64 m] w fun e w' => e = .panicked [{ v := .iface 39 (.int .i64 90), recovered := false }] ∧ w' = w := by
  have KT := take_no b m ad n c w hh hm
  clear hh
  go_enter Try.func49, Try.ntmps49
  go_wp2_with fail
  (with_reducible refine KT.mono ?_)
  rintro e w' ⟨rfl, rfl⟩
  go_wp2
  exact ⟨rfl, rfl, rfl⟩
end Go.Proofs.Ytikjcmijmhmilaa
