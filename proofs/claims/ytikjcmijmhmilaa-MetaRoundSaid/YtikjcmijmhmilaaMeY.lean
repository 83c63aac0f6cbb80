/-
  alike in all fields: places, metas, records that are the same.
-/
import Derived.Test.YtikjcmijmhmilaaMeX
import Derived.Test.YtikjcmijmhmilaaMeJ
namespace Go.Proofs.Ytikjcmijmhmilaa
open Go.RowKit

set_option maxRecDepth 100000 in
set_option maxHeartbeats 8000000 in
theorem samePlaces_self (a1 : Option Addr) (c1 : Nat) (P1 : Nat → PlR) (a2 : Option Addr) (n c2 : Nat) (P2 : Nat → PlR) (w : World) (h1 : PlacesV w a1 n c1 P1) (h2 : PlacesV w a2 n c2 P2) (hS : ∀ i, i < n → SameP (P1 i) (P2 i)) (hn : n ≤ 100000) :
    Calls Try.prog 33 #[.slice a1 n c1, .slice a2 n c2] w fun e w' => e = .returned (.bool true) ∧ Below w.heap.size w w' := by
  have H1 := Lib.hid h1
  have H2 := Lib.hid h2
  have HS := Lib.hid hS
  clear h1 h2 hS
  go_enter Try.func33, Try.ntmps33
  go_wp2_with fail
  go_loopw [5] (fun vi wr => ∃ (i : Nat), i ≤ n ∧ vi = .int .i64 (i : Nat) ∧ Hid (Below w.heap.size w wr)) (fun vi _ => (n - intOf vi).toNat)
  case atStart => exact ⟨0, Nat.zero_le _, rfl, Lib.hid (Below.refl _ _)⟩
  case round =>
    obtain ⟨i, hi, rfl, hB⟩ := hrel
    by_cases hlt : i < n
    · obtain ⟨g1, o1, rfl, hl1, hat1⟩ := H1.out.row (by omega)
      obtain ⟨g2, o2, rfl, hl2, hat2⟩ := H2.out.row (by omega)
      have r1 := (hat1 i hlt).below hl1 hB.out
      have r2 := (hat2 i hlt).below hl2 hB.out
      have hs := HS.out i hlt
      clear hat1 hat2
      generalize P1 i = p1 at r1 hs
      generalize P2 i = p2 at r2 hs
      obtain ⟨pb, pe, ps, ⟨xa, xn, xc⟩, pm⟩ := p1
      obtain ⟨pb2, pe2, ps2, ⟨ya, yn, yc⟩, pm2⟩ := p2
      obtain ⟨e1, e2, e3, e4, e5⟩ := hs
      simp only at e1 e2 e3 e4 e5
      subst e1 e2 e3 e4 e5
      obtain ⟨z0, z1, z2, z3, hx1⟩ := r1
      obtain ⟨y0, y1, y2, y3, hx2⟩ := r2
      simp only at z0 z1 z2 z3 hx1 y0 y1 y2 y3 hx2
      have hcall : ∀ m, Calls Try.prog 18 #[.slice xa xn xc, .slice ya xn yc] (wr.drewN m) fun e w' => e = .returned (.bool true) ∧ ∃ m', w' = (wr.drewN m).drewN m' := fun m => by
        have := sameBytes_quiet xa xn xc pm ya xn yc pm _ (hx1.drewN m) (hx2.drewN m)
        rw [decide_eq_true rfl] at this
        exact this
      have HC := Lib.hid hcall
      have hi0 : (0 : Int) ≤ (i : Int) := by omega
      have hi1 : (i : Int) < (n : Int) := by omega
      have hzf : (pb != pb) = false := by simp
      have hef : (pe != pe) = false := by simp
      have hsf : (ps != ps) = false := by simp
      clear hcall hx1 hx2
      go_wp2_with fail
      go_quiet ((go_at_call 18; exact Calls.quiet_of (HC.out _)))
      go_wp2
      go_roundw
      case rel => exact ⟨i + 1, by omega, by go_num, Lib.hid (below_drewN hB.out _)⟩
      case measure => simp [intOf] <;> omega
    · obtain rfl : i = n := by omega
      go_wp2
      go_ret
      exact ⟨rfl, hB.out⟩
theorem eqlTag (a0 a1 : Int) (w : World) : (binOp .eql 25 (.agg #[.int .i64 a0, .int .i64 a1]) (.agg #[.int .i64 a0, .int .i64 a1])).run Try.prog w = .ok (.bool true) w := by
  rw [run_eql_struct, eqTag, decide_eq_true rfl]
  rfl
set_option maxRecDepth 100000 in
set_option maxHeartbeats 8000000 in
theorem sameMeta_self (N c s t : Int) (d : Bool) (sa : Option Addr) (sc : Nat) (ta : Option Addr) (sn tc : Nat) (sum : List Nat) (w : World) (h1 : BytesV w (sa, sn, sc) sum) (h2 : BytesV w (ta, sn, tc) sum) :
    Calls Try.prog 32 #[.agg #[.int .i64 N, .int .i64 c, .int .i64 s, .int .i64 t, .bool d, .slice sa sn sc], .agg #[.int .i64 N, .int .i64 c, .int .i64 s, .int .i64 t, .bool d, .slice ta sn tc]] w fun e w' => e = .returned (.bool true) ∧ Below w.heap.size w w' := by
  obtain ⟨b, hb⟩ : ∃ b, b = w.heap.size := ⟨_, rfl⟩
  obtain ⟨w1, hw1⟩ : ∃ x, x = w.alloc (.cells #[.int .i64 N, .int .i64 c, .int .i64 s, .int .i64 t, .bool d, .slice sa sn sc] MT6) := ⟨_, rfl⟩
  have hs1 : w1.heap.size = b + 1 := by rw [hw1, hb]; simp
  obtain ⟨w2, hw2⟩ : ∃ x, x = w1.alloc (.cells #[.int .i64 N, .int .i64 c, .int .i64 s, .int .i64 t, .bool d, .slice ta sn tc] MT6) := ⟨_, rfl⟩
  have k1 : w1.heap[b]? = some (.cells #[.int .i64 N, .int .i64 c, .int .i64 s, .int .i64 t, .bool d, .slice sa sn sc] MT6 (0, 0)) := by rw [hw1, hb]; exact heap_alloc_new w _
  have k2 : w2.heap[b]? = some (.cells #[.int .i64 N, .int .i64 c, .int .i64 s, .int .i64 t, .bool d, .slice sa sn sc] MT6 (0, 0)) := by rw [hw2, heap_alloc_old _ _ (by omega)]; exact k1
  have k3 : w2.heap[b + 1]? = some (.cells #[.int .i64 N, .int .i64 c, .int .i64 s, .int .i64 t, .bool d, .slice ta sn tc] MT6 (0, 0)) := by rw [hw2, ← hs1]; exact heap_alloc_new w1 _
  have b2 : Below w.heap.size w w2 := by rw [hw2, hw1]; exact (below_alloc w _).trans ((below_alloc _ _).mono (by simp))
  have hcall := sameBytes_any sa sn sc sum ta sn tc sum w2 (h1.below b2) (h2.below b2)
  rw [decide_eq_true rfl] at hcall
  have HC := Lib.hid hcall
  have HW1 := Lib.hid hw1
  have HW2 := Lib.hid hw2
  have HBB := Lib.hid hb
  have B2 := Lib.hid b2
  obtain ⟨c0, c1, c2, c3, c4, c5, -⟩ := cells6X k2
  obtain ⟨d0, d1, d2, d3, d4, d5, -⟩ := cells6X k3
  have he := fun w => eqlTag N c w
  have hse : (s == s) = true := by simp
  have hte : (t == t) = true := by simp
  clear hcall hw1 hw2 hb k1 k2 k3 b2 h1 h2 hs1
  go_enter Try.func32, Try.ntmps32
  go_upto_region 1 with fail
  rw [← HBB.out, ← HW1.out, ← HW2.out]
  go_wp2_with fail
  (with_reducible refine (HC.out).mono ?_)
  rintro e w3 ⟨rfl, b3⟩
  have B3 := Lib.hid (B2.out.trans (b3.mono B2.out.size))
  clear b3
  go_wp2
  go_ret
  exact ⟨rfl, B3.out⟩
set_option maxRecDepth 100000 in
set_option maxHeartbeats 8000000 in
theorem sameRecord_self (k : Int) (key : ByteArray) (N c s t : Int) (d : Bool) (sa : Option Addr) (sc : Nat) (ta : Option Addr) (sn tc : Nat) (sum : List Nat) (pa : Option Addr) (pn pc : Nat) (P : Nat → PlR) (qa : Option Addr) (qc : Nat) (Q : Nat → PlR) (w : World) (h1 : BytesV w (sa, sn, sc) sum) (h2 : BytesV w (ta, sn, tc) sum) (hP : PlacesV w pa pn pc P) (hQ : PlacesV w qa pn qc Q) (hS : ∀ i, i < pn → SameP (P i) (Q i)) (hn : pn ≤ 100000) :
    Calls Try.prog 19 #[.agg #[.int .i64 k, .string key, .int .i64 N, .int .i64 c, .int .i64 s, .int .i64 t, .bool d, .slice sa sn sc, .slice pa pn pc], .agg #[.int .i64 k, .string key, .int .i64 N, .int .i64 c, .int .i64 s, .int .i64 t, .bool d, .slice ta sn tc, .slice qa pn qc]] w fun e w' => e = .returned (.bool true) ∧ Below w.heap.size w w' := by
  obtain ⟨b, hb⟩ : ∃ b, b = w.heap.size := ⟨_, rfl⟩
  obtain ⟨w1, hw1⟩ : ∃ x, x = w.alloc (.cells #[.int .i64 k, .string key, .int .i64 N, .int .i64 c, .int .i64 s, .int .i64 t, .bool d, .slice sa sn sc, .slice pa pn pc] RT9) := ⟨_, rfl⟩
  have hs1 : w1.heap.size = b + 1 := by rw [hw1, hb]; simp
  obtain ⟨w2, hw2⟩ : ∃ x, x = w1.alloc (.cells #[.int .i64 k, .string key, .int .i64 N, .int .i64 c, .int .i64 s, .int .i64 t, .bool d, .slice ta sn tc, .slice qa pn qc] RT9) := ⟨_, rfl⟩
  have k1 : w1.heap[b]? = some (.cells #[.int .i64 k, .string key, .int .i64 N, .int .i64 c, .int .i64 s, .int .i64 t, .bool d, .slice sa sn sc, .slice pa pn pc] RT9 (0, 0)) := by rw [hw1, hb]; exact heap_alloc_new w _
  have k2 : w2.heap[b]? = some (.cells #[.int .i64 k, .string key, .int .i64 N, .int .i64 c, .int .i64 s, .int .i64 t, .bool d, .slice sa sn sc, .slice pa pn pc] RT9 (0, 0)) := by rw [hw2, heap_alloc_old _ _ (by omega)]; exact k1
  have k3 : w2.heap[b + 1]? = some (.cells #[.int .i64 k, .string key, .int .i64 N, .int .i64 c, .int .i64 s, .int .i64 t, .bool d, .slice ta sn tc, .slice qa pn qc] RT9 (0, 0)) := by rw [hw2, ← hs1]; exact heap_alloc_new w1 _
  have b2 : Below w.heap.size w w2 := by rw [hw2, hw1]; exact (below_alloc w _).trans ((below_alloc _ _).mono (by simp))
  have KM := sameMeta_self N c s t d sa sc ta sn tc sum w2 (h1.below b2) (h2.below b2)
  have HW1 := Lib.hid hw1
  have HW2 := Lib.hid hw2
  have HBB := Lib.hid hb
  have B2 := Lib.hid b2
  have K2 := Lib.hid k2
  have K3 := Lib.hid k3
  have HP := Lib.hid hP
  have HQ := Lib.hid hQ
  have HS := Lib.hid hS
  obtain ⟨c0, c1, c2, c3, c4, c5, c6, c7, c8⟩ := cells9M k2
  obtain ⟨d0, d1, d2, d3, d4, d5, d6, d7, d8⟩ := cells9M k3
  have hke : (k == k) = true := by simp
  clear hw1 hw2 hb k1 k2 k3 b2 h1 h2 hs1 hP hQ hS
  go_enter Try.func19, Try.ntmps19
  go_upto_region 1 with fail
  rw [← HBB.out, ← HW1.out, ← HW2.out]
  go_wp2_with fail
  (with_reducible refine KM.mono ?_)
  rintro e w3 ⟨rfl, b3⟩
  have B3 := Lib.hid (B2.out.trans (b3.mono B2.out.size))
  clear c0 c1 c2 c3 c4 c5 c6 c7 c8 d0 d1 d2 d3 d4 d5 d6 d7 d8
  obtain ⟨c0, c1, c2, c3, c4, c5, c6, c7, c8⟩ := cells9M ((b3.block b (Array.getElem?_eq_some_iff.1 K2.out).1).trans K2.out)
  obtain ⟨d0, d1, d2, d3, d4, d5, d6, d7, d8⟩ := cells9M ((b3.block (b + 1) (Array.getElem?_eq_some_iff.1 K3.out).1).trans K3.out)
  have KP := samePlaces_self pa pc P qa pn qc Q w3 (HP.out.below B3.out) (HQ.out.below B3.out) HS.out hn
  clear b3 KM
  go_wp2_with fail
  (with_reducible refine KP.mono ?_)
  rintro e w4 ⟨rfl, b4⟩
  have B4 := Lib.hid (B3.out.trans (b4.mono B3.out.size))
  clear b4 KP
  go_wp2
  go_ret
  exact ⟨rfl, B4.out⟩
end Go.Proofs.Ytikjcmijmhmilaa
