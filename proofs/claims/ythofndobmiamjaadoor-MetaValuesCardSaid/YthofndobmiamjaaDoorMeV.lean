/-
  meta.Encode and rillref09.Encode of any record.
-/
import Derived.Test.YthofndobmiamjaaDoorMeU
namespace Go.Proofs.YthofndobmiamjaaDoor
open Go.RowKit

set_option maxRecDepth 100000 in
set_option maxHeartbeats 4000000 in
theorem encode_no (k : Int) (key : ByteArray) (N c s t : Int) (d : Bool) (sa : Option Addr) (sn sc : Nat) (pa : Option Addr) (pn pc : Nat) (P : Nat → PlR) (w : World) (hP : PlacesV w pa pn pc P) (hpn : pn ≤ 100000) (hR : rightB k key N c s t d sn P pn = false) :
    Calls Tryd.prog 35 #[.agg #[.int .i64 k, .string key, .int .i64 N, .int .i64 c, .int .i64 s, .int .i64 t, .bool d, .slice sa sn sc, .slice pa pn pc]] w fun e w' => e = .returned (.tuple #[.slice none 0 0, .int .i64 90]) ∧ Below w.heap.size w w' := by
  have KR := right_any k key N c s t d sa sn sc pa pn pc P
  simp only [hR] at KR
  have HP := Lib.hid hP
  obtain ⟨w1', hw1⟩ : ∃ x, x = w.alloc (.cells #[.int .i64 k, .string key, .int .i64 N, .int .i64 c, .int .i64 s, .int .i64 t, .bool d, .slice sa sn sc, .slice pa pn pc] RT9) := ⟨_, rfl⟩
  have b1 : Below w.heap.size w w1' := by rw [hw1]; exact below_alloc w _
  have h1 : w1'.heap[w.heap.size]? = some (.cells #[.int .i64 k, .string key, .int .i64 N, .int .i64 c, .int .i64 s, .int .i64 t, .bool d, .slice sa sn sc, .slice pa pn pc] RT9 (0, 0)) := by rw [hw1]; exact heap_alloc_new w _
  have HW1 := Lib.hid hw1
  have KR1 := KR w1' (hP.below b1) hpn
  obtain ⟨c0, c1, c2, c3, c4, c5, c6, c7, c8⟩ := cells9M h1
  clear hP KR hR hw1
  go_enter Tryd.func35, Tryd.ntmps35
  go_upto_region 1 with fail
  rw [← HW1.out]
  go_wp2_with fail
  (with_reducible refine KR1.mono ?_)
  rintro e w2' ⟨rfl, b2⟩
  have hb2 := Lib.hid (b1.trans (b2.mono b1.size))
  clear KR1 b2 c0 c1 c2 c3 c4 c5 c6 c7 c8 h1 b1
  go_wp2
  go_ret2
  exact ⟨rfl, hb2.out⟩
end Go.Proofs.YthofndobmiamjaaDoor
