/-
  tuple: the reference's Tuple, its walk.
-/
import Derived.Test.YtfjcbgfgiidogaaDoorMTu2
import Derived.Test.YtfjcbgfgiidogaaDoorMTuB
namespace Go.Proofs.YtfjcbgfgiidogaaDoor
open Go.RowKit

theorem refRand_is (y i m r : Int) (hm : 1 ≤ m) (hm2 : m ≤ 9223372036854775807) (hr : r = rz y i % m) (w : World) :
    Calls Tryd.prog 125 #[.int .i64 y, .int .i64 i, .int .i64 m] w fun e w' => e = .returned (.int .i64 r) ∧ w = w' := by
  rw [hr]
  exact refRand_any y i m w hm hm2
theorem refDegree_is (v x d : Int) (hx0 : -9223372036854775808 ≤ x) (hx1 : x ≤ 9223372036854775807) (hd : d = degS v x) (w : World) :
    Calls Tryd.prog 124 #[.int .i64 v, .int .i64 x] w fun e w' => e = .returned (.int .i64 d) ∧ Below w.heap.size w w' := by
  rw [hd]
  exact refDegree_any v x w ⟨hx0, hx1⟩
theorem gen_world (P : World → Prop) (W0 : World) (b g : Nat) (w : World) (cs old : Array Value) (h1 : W0.heap[b]? = some (.cells cs 125 (0, 0))) (h2 : W0.heap[g]? = some (.cells old 125 (0, 0))) (h3 : Below g w W0)
    (h : ∀ W5, W5.heap[b]? = some (.cells cs 125 (0, 0)) → W5.heap[g]? = some (.cells old 125 (0, 0)) → Below g w W5 → P W5) : P W0 := h W0 h1 h2 h3
theorem results_rtup (tmps : Array Value) (w : World) (g : Nat) (cs : Array Value) (n : Int) (hp : tmps.getD 4 undef = .pointer (some ⟨g, 0, none⟩)) (h5 : tmps.getD 5 undef = .int .i64 n) (hg : w.heap[g]? = some (.cells cs 125 (0, 0))) (hs : cs.size = 6) :
    (results Tryd.f105 tmps).run Tryd.prog w = .ok (.tuple #[.agg cs, .int .i64 n]) w := by
  have hp' : tmps[4]?.getD undef = .pointer (some ⟨g, 0, none⟩) := by simpa using hp
  have h5' : tmps[5]?.getD undef = .int .i64 n := by simpa using h5
  simp [results, Tryd.results105, hp', h5', asAddr, loadVar_tup w g cs hg hs]

end Go.Proofs.YtfjcbgfgiidogaaDoor
