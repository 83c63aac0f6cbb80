/-
  alike in all fields: places, metas, records that are the same.
-/
import Derived.Test.YtopnjjehefaghaaDoorMMeJ
import Derived.Test.YtopnjjehefaghaaDoorMMeX
namespace Go.Proofs.YtopnjjehefaghaaDoor
open Go.RowKit

theorem eqlTag (a0 a1 : Int) (w : World) : (binOp .eql 23 (.agg #[.int .i64 a0, .int .i64 a1]) (.agg #[.int .i64 a0, .int .i64 a1])).run Tryd.prog w = .ok (.bool true) w := by
  rw [run_eql_struct, eqTag, decide_eq_true rfl]
  rfl
set_option maxRecDepth 100000 in
set_option maxHeartbeats 8000000 in
theorem sameMeta_self (N c s t : Int) (d : Bool) (sa : Option Addr) (sc : Nat) (ta : Option Addr) (sn tc : Nat) (sum : List Nat) (w : World) (h1 : BytesV w (sa, sn, sc) sum) (h2 : BytesV w (ta, sn, tc) sum) :
    Calls Tryd.prog 34 #[.agg #[.int .i64 N, .int .i64 c, .int .i64 s, .int .i64 t, .bool d, .slice sa sn sc], .agg #[.int .i64 N, .int .i64 c, .int .i64 s, .int .i64 t, .bool d, .slice ta sn tc]] w fun e w' => e = .returned (.bool true) ∧ Below w.heap.size w w' := by
  obtain ⟨b, hb⟩ : ∃ b, b = w.heap.size := ⟨_, rfl⟩
  obtain ⟨w1, hw1⟩ : ∃ x, x = w.alloc (.cells #[.int .i64 N, .int .i64 c, .int .i64 s, .int .i64 t, .bool d, .slice sa sn sc] MT6) := ⟨_, rfl⟩
  have hs1 : w1.heap.size = b + 1 := by rw [hw1, hb]; simp
  obtain ⟨w2, hw2⟩ : ∃ x, x = w1.alloc (.cells #[.int .i64 N, .int .i64 c, .int .i64 s, .int .i64 t, .bool d, .slice ta sn tc] MT6) := ⟨_, rfl⟩
  have k1 : w1.heap[b]? = some (.cells #[.int .i64 N, .int .i64 c, .int .i64 s, .int .i64 t, .bool d, .slice sa sn sc] MT6 (0, 0)) := by rw [hw1, hb]; exact heap_alloc_new w _
  have k2 : w2.heap[b]? = some (.cells #[.int .i64 N, .int .i64 c, .int .i64 s, .int .i64 t, .bool d, .slice sa sn sc] MT6 (0, 0)) := by rw [hw2, heap_alloc_old _ _ (by omega)]; exact k1
  have k3 : w2.heap[b + 1]? = some (.cells #[.int .i64 N, .int .i64 c, .int .i64 s, .int .i64 t, .bool d, .slice ta sn tc] MT6 (0, 0)) := by rw [hw2, ← hs1]; exact heap_alloc_new w1 _
  have b2 : Below w.heap.size w w2 := by rw [hw2, hw1]; exact (below_alloc w _).trans ((below_alloc _ _).mono (by simp))
  have hcall := sameBytes_any sa sn sc sum ta sn tc sum w2 (h1.below b2) (h2.below b2)
  rw [decide_eq_true rfl] at hcall
  have HC := Lib.hid hcall
  have HW1 := Lib.hid hw1
  have HW2 := Lib.hid hw2
  have HBB := Lib.hid hb
  have B2 := Lib.hid b2
  obtain ⟨c0, c1, c2, c3, c4, c5, -⟩ := cells6X k2
  obtain ⟨d0, d1, d2, d3, d4, d5, -⟩ := cells6X k3
  have he := fun w => eqlTag N c w
  have hse : (s == s) = true := by simp
  have hte : (t == t) = true := by simp
  clear hcall hw1 hw2 hb k1 k2 k3 b2 h1 h2 hs1
  go_enter Tryd.func34, Tryd.ntmps34
  go_upto_region 1 with fail
  rw [← HBB.out, ← HW1.out, ← HW2.out]
  go_wp2_with fail
  (with_reducible refine (HC.out).mono ?_)
  rintro e w3 ⟨rfl, b3⟩
  have B3 := Lib.hid (B2.out.trans (b3.mono B2.out.size))
  clear b3
  go_wp2
  go_ret
  exact ⟨rfl, B3.out⟩
end Go.Proofs.YtopnjjehefaghaaDoor
