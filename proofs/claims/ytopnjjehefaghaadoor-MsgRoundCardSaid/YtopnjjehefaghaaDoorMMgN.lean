/-
  msg's reference: a message is right; Check.
-/
import Derived.Test.YtopnjjehefaghaaDoorMWL
import Derived.Test.YtopnjjehefaghaaDoorMMgE
import Derived.Test.YtopnjjehefaghaaDoorMMgM
import Derived.Test.YtopnjjehefaghaaDoorMMgI
namespace Go.Proofs.YtopnjjehefaghaaDoor
open Go.RowKit

set_option maxRecDepth 10000 in
set_option maxHeartbeats 4000000 in
theorem rnone_any (m : MeR) (xa : Option Addr) (xn xc : Nat) (w : World) (hl : m.l.length = xn) : Calls Tryd.prog 31 #[.agg (MC m (xa, xn, xc))] w fun e w' => e = .returned (.bool (noneB m)) ∧ Below w.heap.size w w' := by
  obtain ⟨N, c, s, t, d, ml⟩ := m
  simp only at hl
  have KE := fun w => eqlTag2 N c 0 0 w
  have hb := below_alloc w (.cells #[.int .i64 N, .int .i64 c, .int .i64 s, .int .i64 t, .bool d, .slice xa xn xc] MT6)
  have HB := Lib.hid hb
  have HL := Lib.hid hl
  clear hb hl
  by_cases e0 : (N, c) = (0, 0)
  rotate_left 1
  · have KF : ∀ w, (binOp .eql 23 (.agg #[.int .i64 N, .int .i64 c]) (.agg #[.int .i64 0, .int .i64 0])).run Tryd.prog w = .ok (.bool false) w := fun w => by rw [KE w, decide_eq_false e0]
    clear KE
    go_enter Tryd.func31, Tryd.ntmps31
    go_wp2
    go_ret
    exact ⟨ret_boolM (Eq.symm (decide_eq_false (fun h => e0 (by rw [show N = 0 from h.1, show c = 0 from h.2.1])))), below_alloc w _⟩
  have KT : ∀ w, (binOp .eql 23 (.agg #[.int .i64 N, .int .i64 c]) (.agg #[.int .i64 0, .int .i64 0])).run Tryd.prog w = .ok (.bool true) w := fun w => by rw [KE w, decide_eq_true e0]
  clear KE
  by_cases e1 : s = 0
  rotate_left 1
  · go_enter Tryd.func31, Tryd.ntmps31
    go_wp2
    go_ret
    exact ⟨ret_boolM (Eq.symm (decide_eq_false (fun h => e1 h.2.2.1))), below_alloc w _⟩
  have e1' := e1
  by_cases e2 : t = 0
  rotate_left 1
  · go_enter Tryd.func31, Tryd.ntmps31
    go_wp2
    go_ret
    exact ⟨ret_boolM (Eq.symm (decide_eq_false (fun h => e2 h.2.2.2.1))), below_alloc w _⟩
  have e2' := e2
  cases d with
  | true =>
    go_enter Tryd.func31, Tryd.ntmps31
    go_wp2
    go_ret
    exact ⟨ret_boolM (Eq.symm (decide_eq_false (fun h => absurd h.2.2.2.2.1 (by simp)))), below_alloc w _⟩
  | false =>
    by_cases e4 : xn = 0
    rotate_left 1
    · go_enter Tryd.func31, Tryd.ntmps31
      go_wp2
      go_ret
      exact ⟨ret_boolM ((beq_eq_false_iff_ne.2 (by omega) : ((xn : Int) == 0) = false).trans (Eq.symm (decide_eq_false (fun h => e4 (by rw [← HL.out, show ml = [] from h.2.2.2.2.2]; rfl))))), below_alloc w _⟩
    go_enter Tryd.func31, Tryd.ntmps31
    go_wp2
    go_ret
    exact ⟨ret_boolM (Eq.symm (decide_eq_true ⟨(Prod.mk.inj e0).1, (Prod.mk.inj e0).2, e1, e2, rfl, List.eq_nil_of_length_eq_zero (by rw [HL.out]; exact e4)⟩)), below_alloc w _⟩
set_option maxRecDepth 100000 in
set_option maxHeartbeats 60000000 in
theorem rcheck_any (M : MsR) (x : Option Addr × Nat × Nat) (sa : Option Addr) (sc : Nat) (ia : Option Addr) (ic : Nat) (w : World) (hM : MsV w M x sa ia) :
    Calls Tryd.prog 16 #[.agg (MsC M x sa sc ia ic)] w fun e w' => e = .returned (.bool (rightM M && decide ((msgLE M).length ≤ 65536))) ∧ Below w.heap.size w w' := by
  obtain ⟨k, f, t, op, cd, key, m, sy, it⟩ := M
  obtain ⟨xa, xn, xc⟩ := x
  have hl : m.l.length = xn := hM.x.length
  obtain ⟨R, hR⟩ : ∃ b, b = (rightM ⟨k, f, t, op, cd, key, m, sy, it⟩ && decide ((msgLE ⟨k, f, t, op, cd, key, m, sy, it⟩).length ≤ 65536)) := ⟨_, rfl⟩
  rw [← hR]
  have HNO : Hid (rightM ⟨k, f, t, op, cd, key, m, sy, it⟩ = false → R = false) := Lib.hid (fun h => by rw [hR, h]; rfl)
  have HR := Lib.hid hR
  have HM := Lib.hid hM
  have hMs : SyV w sa sy.length sy := hM.s
  have hMi : ItV w ia it.length it := hM.i
  have HMS := Lib.hid hMs
  have HMI := Lib.hid hMi
  have HL := Lib.hid hl
  obtain ⟨cs, hcs⟩ : ∃ cs : Array Value, cs = #[.int .i64 k, .int .i64 f, .int .i64 t, .int .i64 op, .int .i64 cd, .string key, .int .i64 m.N, .int .i64 m.c, .int .i64 m.s, .int .i64 m.t, .bool m.d, .slice xa xn xc, .slice sa sy.length sc, .slice ia it.length ic] := ⟨_, rfl⟩
  have hcs2 : MsC ⟨k, f, t, op, cd, key, m, sy, it⟩ (xa, xn, xc) sa sc ia ic = cs := by rw [hcs]
  have HCS2 := Lib.hid hcs2
  rw [hcs2]
  have hcv : ∀ V : World, V.heap[w.heap.size]? = some (.cells cs MMT (0, 0)) → V.heap[w.heap.size]? = some (.cells #[.int .i64 k, .int .i64 f, .int .i64 t, .int .i64 op, .int .i64 cd, .string key, .int .i64 m.N, .int .i64 m.c, .int .i64 m.s, .int .i64 m.t, .bool m.d, .slice xa xn xc, .slice sa sy.length sc, .slice ia it.length ic] MMT (0, 0)) := fun V h => by rw [h, hcs]
  have HCV := Lib.hid hcv
  obtain ⟨w0, hw0⟩ : ∃ w0, w0 = w.alloc (.cells cs MMT) := ⟨_, rfl⟩
  have h0 : w0.heap[w.heap.size]? = some (.cells cs MMT (0, 0)) := by rw [hw0]; exact heap_alloc_new w _
  have hb : Below w.heap.size w w0 := by rw [hw0]; exact below_alloc w _
  have HW00 := Lib.hid hw0
  have H00 := Lib.hid h0
  have hh := HCV.out _ h0
  clear hcv hcs hw0 hR h0 hM hMs hMi hcs2 hl
  go_enter Tryd.func16, Tryd.ntmps16
  go_upto_region 1 with fail
  rw [← HW00.out]
  clear HW00
  obtain ⟨⟨c0, c1, c2, c3, c4, c5, c6⟩, c7, c8, c9, c10, c11, c12, c13⟩ := cells14 hh
  refine WL.start ?_
  refine WL.take (v := ?tv0c1) (by rfl) ?ty0c1 ?tr0c1
  case ty0c1 => (go_simp; first | done | with_reducible rfl)
  simp only [Act.put, List.setIfInBounds_toArray, List.set_cons_zero, List.set_cons_succ]
  refine WL.take (v := ?tv1c2) (by rfl) ?ty1c2 ?tr1c2
  case ty1c2 => (go_simp; first | done | with_reducible rfl)
  simp only [Act.put, List.setIfInBounds_toArray, List.set_cons_zero, List.set_cons_succ]
  by_cases h2 : k < 1
  · refine WL.take (v := ?tv2c3) (by rfl) ?ty2c3 ?tr2c3
    case ty2c3 => (go_simp; first | done | with_reducible rfl)
    simp only [Act.put, List.setIfInBounds_toArray, List.set_cons_zero, List.set_cons_succ]
    refine WL.take (v := ?tv3c4) (by rfl) ?ty3c4 ?tr3c4
    case ty3c4 => (go_simp; first | done | with_reducible rfl)
    simp only [Act.put, List.setIfInBounds_toArray, List.set_cons_zero, List.set_cons_succ]
    refine WL.skip (by rfl) ?_
    simp only [Act.put, List.setIfInBounds_toArray, List.set_cons_zero, List.set_cons_succ]
    refine WL.skip (by rfl) ?_
    simp only [Act.put, List.setIfInBounds_toArray, List.set_cons_zero, List.set_cons_succ]
    refine WL.skip (by rfl) ?_
    simp only [Act.put, List.setIfInBounds_toArray, List.set_cons_zero, List.set_cons_succ]
    refine WL.take (v := ?tv7c5) (by rfl) ?ty7c5 ?tr7c5
    case ty7c5 => (go_simp; first | done | with_reducible rfl)
    simp only [Act.put, List.setIfInBounds_toArray, List.set_cons_zero, List.set_cons_succ]
    refine WL.take (v := ?tv8c6) (by rfl) ?ty8c6 ?tr8c6
    case ty8c6 => (go_simp; first | done | with_reducible rfl)
    simp only [Act.put, List.setIfInBounds_toArray, List.set_cons_zero, List.set_cons_succ]
    refine WL.skip (by rfl) ?_
    simp only [Act.put, List.setIfInBounds_toArray, List.set_cons_zero, List.set_cons_succ]
    refine WL.skip (by rfl) ?_
    simp only [Act.put, List.setIfInBounds_toArray, List.set_cons_zero, List.set_cons_succ]
    refine WL.skip (by rfl) ?_
    simp only [Act.put, List.setIfInBounds_toArray, List.set_cons_zero, List.set_cons_succ]
    refine WL.take (v := ?tv12c7) (by rfl) ?ty12c7 ?tr12c7
    case ty12c7 => (go_simp; first | done | with_reducible rfl)
    simp only [Act.put, List.setIfInBounds_toArray, List.set_cons_zero, List.set_cons_succ]
    refine WL.take (v := ?tv13c8) (by rfl) ?ty13c8 ?tr13c8
    case ty13c8 => (go_simp; first | done | with_reducible rfl)
    simp only [Act.put, List.setIfInBounds_toArray, List.set_cons_zero, List.set_cons_succ]
    refine WL.skip (by rfl) ?_
    simp only [Act.put, List.setIfInBounds_toArray, List.set_cons_zero, List.set_cons_succ]
    refine WL.skip (by rfl) ?_
    simp only [Act.put, List.setIfInBounds_toArray, List.set_cons_zero, List.set_cons_succ]
    refine WL.skip (by rfl) ?_
    simp only [Act.put, List.setIfInBounds_toArray, List.set_cons_zero, List.set_cons_succ]
    refine WL.take (v := ?tv17c9) (by rfl) ?ty17c9 ?tr17c9
    case ty17c9 => (go_simp; first | done | with_reducible rfl)
    simp only [Act.put, List.setIfInBounds_toArray, List.set_cons_zero, List.set_cons_succ]
    refine WL.take (v := ?tv18c10) (by rfl) ?ty18c10 ?tr18c10
    case ty18c10 => (go_simp; first | done | with_reducible rfl)
    simp only [Act.put, List.setIfInBounds_toArray, List.set_cons_zero, List.set_cons_succ]
    refine WL.skip (by rfl) ?_
    simp only [Act.put, List.setIfInBounds_toArray, List.set_cons_zero, List.set_cons_succ]
    refine WL.skip (by rfl) ?_
    simp only [Act.put, List.setIfInBounds_toArray, List.set_cons_zero, List.set_cons_succ]
    refine WL.skip (by rfl) ?_
    simp only [Act.put, List.setIfInBounds_toArray, List.set_cons_zero, List.set_cons_succ]
    refine WL.take (v := ?tv22c11) (by rfl) ?ty22c11 ?tr22c11
    case ty22c11 => (go_simp; first | done | with_reducible rfl)
    simp only [Act.put, List.setIfInBounds_toArray, List.set_cons_zero, List.set_cons_succ]
    refine WL.take (v := ?tv23c12) (by rfl) ?ty23c12 ?tr23c12
    case ty23c12 => (go_simp; first | done | with_reducible rfl)
    simp only [Act.put, List.setIfInBounds_toArray, List.set_cons_zero, List.set_cons_succ]
    refine WL.skip (by rfl) ?_
    simp only [Act.put, List.setIfInBounds_toArray, List.set_cons_zero, List.set_cons_succ]
    refine WL.skip (by rfl) ?_
    simp only [Act.put, List.setIfInBounds_toArray, List.set_cons_zero, List.set_cons_succ]
    refine WL.skip (by rfl) ?_
    simp only [Act.put, List.setIfInBounds_toArray, List.set_cons_zero, List.set_cons_succ]
    refine WL.take (v := ?tv27c13) (by rfl) ?ty27c13 ?tr27c13
    case ty27c13 => (go_simp; first | done | with_reducible rfl)
    simp only [Act.put, List.setIfInBounds_toArray, List.set_cons_zero, List.set_cons_succ]
    refine WL.take (v := ?tv28c14) (by rfl) ?ty28c14 ?tr28c14
    case ty28c14 => (go_simp; first | done | with_reducible rfl)
    simp only [Act.put, List.setIfInBounds_toArray, List.set_cons_zero, List.set_cons_succ]
    refine WL.skip (by rfl) ?_
    simp only [Act.put, List.setIfInBounds_toArray, List.set_cons_zero, List.set_cons_succ]
    refine WL.skip (by rfl) ?_
    simp only [Act.put, List.setIfInBounds_toArray, List.set_cons_zero, List.set_cons_succ]
    refine WL.skip (by rfl) ?_
    simp only [Act.put, List.setIfInBounds_toArray, List.set_cons_zero, List.set_cons_succ]
    refine WL.take (v := ?tv32c15) (by rfl) ?ty32c15 ?tr32c15
    case ty32c15 => (go_simp; first | done | with_reducible rfl)
    simp only [Act.put, List.setIfInBounds_toArray, List.set_cons_zero, List.set_cons_succ]
    refine WL.take (v := ?tv33c16) (by rfl) ?ty33c16 ?tr33c16
    case ty33c16 => (go_simp; first | done | with_reducible rfl)
    simp only [Act.put, List.setIfInBounds_toArray, List.set_cons_zero, List.set_cons_succ]
    refine WL.skip (by rfl) ?_
    simp only [Act.put, List.setIfInBounds_toArray, List.set_cons_zero, List.set_cons_succ]
    refine WL.skip (by rfl) ?_
    simp only [Act.put, List.setIfInBounds_toArray, List.set_cons_zero, List.set_cons_succ]
    refine WL.skip (by rfl) ?_
    simp only [Act.put, List.setIfInBounds_toArray, List.set_cons_zero, List.set_cons_succ]
    refine WL.take (v := ?tv37c17) (by rfl) ?ty37c17 ?tr37c17
    case ty37c17 => (go_simp; first | done | with_reducible rfl)
    simp only [Act.put, List.setIfInBounds_toArray, List.set_cons_zero, List.set_cons_succ]
    refine WL.take (v := ?tv38c18) (by rfl) ?ty38c18 ?tr38c18
    case ty38c18 => (go_simp; first | done | with_reducible rfl)
    simp only [Act.put, List.setIfInBounds_toArray, List.set_cons_zero, List.set_cons_succ]
    refine WL.skip (by rfl) ?_
    simp only [Act.put, List.setIfInBounds_toArray, List.set_cons_zero, List.set_cons_succ]
    refine WL.skip (by rfl) ?_
    simp only [Act.put, List.setIfInBounds_toArray, List.set_cons_zero, List.set_cons_succ]
    refine WL.skip (by rfl) ?_
    simp only [Act.put, List.setIfInBounds_toArray, List.set_cons_zero, List.set_cons_succ]
    refine WL.take (v := ?tv42c19) (by rfl) ?ty42c19 ?tr42c19
    case ty42c19 => (go_simp; first | done | with_reducible rfl)
    simp only [Act.put, List.setIfInBounds_toArray, List.set_cons_zero, List.set_cons_succ]
    refine WL.take (v := ?tv43c20) (by rfl) ?ty43c20 ?tr43c20
    case ty43c20 => (go_simp; first | done | with_reducible rfl)
    simp only [Act.put, List.setIfInBounds_toArray, List.set_cons_zero, List.set_cons_succ]
    refine WL.skip (by rfl) ?_
    simp only [Act.put, List.setIfInBounds_toArray, List.set_cons_zero, List.set_cons_succ]
    refine WL.skip (by rfl) ?_
    simp only [Act.put, List.setIfInBounds_toArray, List.set_cons_zero, List.set_cons_succ]
    refine WL.skip (by rfl) ?_
    simp only [Act.put, List.setIfInBounds_toArray, List.set_cons_zero, List.set_cons_succ]
    refine WL.take (v := ?tv47c21) (by rfl) ?ty47c21 ?tr47c21
    case ty47c21 => (go_simp; first | done | with_reducible rfl)
    simp only [Act.put, List.setIfInBounds_toArray, List.set_cons_zero, List.set_cons_succ]
    refine WL.take (v := ?tv48c22) (by rfl) ?ty48c22 ?tr48c22
    case ty48c22 => (go_simp; first | done | with_reducible rfl)
    simp only [Act.put, List.setIfInBounds_toArray, List.set_cons_zero, List.set_cons_succ]
    refine WL.skip (by rfl) ?_
    simp only [Act.put, List.setIfInBounds_toArray, List.set_cons_zero, List.set_cons_succ]
    refine WL.skip (by rfl) ?_
    simp only [Act.put, List.setIfInBounds_toArray, List.set_cons_zero, List.set_cons_succ]
    refine WL.skip (by rfl) ?_
    simp only [Act.put, List.setIfInBounds_toArray, List.set_cons_zero, List.set_cons_succ]
    refine WL.skip (by rfl) ?_
    simp only [Act.put, List.setIfInBounds_toArray, List.set_cons_zero, List.set_cons_succ]
    refine WL.take (v := ?tv53c23) (by rfl) ?ty53c23 ?tr53c23
    case ty53c23 => (go_simp; first | done | with_reducible rfl)
    simp only [Act.put, List.setIfInBounds_toArray, List.set_cons_zero, List.set_cons_succ]
    refine WL.done ?_
    have hno := Lib.hid (HNO.out (rightM_no (M := ⟨k, f, t, op, cd, key, m, sy, it⟩) 0 (by decide) (decide_eq_false (show ¬ (1 ≤ k) by omega))))
    go_wp2
    go_ret
    exact ⟨by rw [hno.out]; rfl, hb⟩
  · refine WL.take (v := ?tv2c24) (by rfl) ?ty2c24 ?tr2c24
    case ty2c24 => (go_simp; first | done | with_reducible rfl)
    simp only [Act.put, List.setIfInBounds_toArray, List.set_cons_zero, List.set_cons_succ]
    refine WL.take (v := ?tv3c25) (by rfl) ?ty3c25 ?tr3c25
    case ty3c25 => (go_simp; first | done | with_reducible rfl)
    simp only [Act.put, List.setIfInBounds_toArray, List.set_cons_zero, List.set_cons_succ]
    refine WL.take (v := ?tv4c26) (by rfl) ?ty4c26 ?tr4c26
    case ty4c26 => (go_simp; first | done | with_reducible rfl)
    simp only [Act.put, List.setIfInBounds_toArray, List.set_cons_zero, List.set_cons_succ]
    refine WL.take (v := ?tv5c27) (by rfl) ?ty5c27 ?tr5c27
    case ty5c27 => (go_simp; first | done | with_reducible rfl)
    simp only [Act.put, List.setIfInBounds_toArray, List.set_cons_zero, List.set_cons_succ]
    by_cases h6 : 10 < k
    · refine WL.take (v := ?tv6c28) (by rfl) ?ty6c28 ?tr6c28
      case ty6c28 => (go_simp; first | done | with_reducible rfl)
      simp only [Act.put, List.setIfInBounds_toArray, List.set_cons_zero, List.set_cons_succ]
      refine WL.take (v := ?tv7c29) (by rfl) ?ty7c29 ?tr7c29
      case ty7c29 => (go_simp; first | done | with_reducible rfl)
      simp only [Act.put, List.setIfInBounds_toArray, List.set_cons_zero, List.set_cons_succ]
      refine WL.take (v := ?tv8c30) (by rfl) ?ty8c30 ?tr8c30
      case ty8c30 => (go_simp; first | done | with_reducible rfl)
      simp only [Act.put, List.setIfInBounds_toArray, List.set_cons_zero, List.set_cons_succ]
      refine WL.skip (by rfl) ?_
      simp only [Act.put, List.setIfInBounds_toArray, List.set_cons_zero, List.set_cons_succ]
      refine WL.skip (by rfl) ?_
      simp only [Act.put, List.setIfInBounds_toArray, List.set_cons_zero, List.set_cons_succ]
      refine WL.skip (by rfl) ?_
      simp only [Act.put, List.setIfInBounds_toArray, List.set_cons_zero, List.set_cons_succ]
      refine WL.take (v := ?tv12c31) (by rfl) ?ty12c31 ?tr12c31
      case ty12c31 => (go_simp; first | done | with_reducible rfl)
      simp only [Act.put, List.setIfInBounds_toArray, List.set_cons_zero, List.set_cons_succ]
      refine WL.take (v := ?tv13c32) (by rfl) ?ty13c32 ?tr13c32
      case ty13c32 => (go_simp; first | done | with_reducible rfl)
      simp only [Act.put, List.setIfInBounds_toArray, List.set_cons_zero, List.set_cons_succ]
      refine WL.skip (by rfl) ?_
      simp only [Act.put, List.setIfInBounds_toArray, List.set_cons_zero, List.set_cons_succ]
      refine WL.skip (by rfl) ?_
      simp only [Act.put, List.setIfInBounds_toArray, List.set_cons_zero, List.set_cons_succ]
      refine WL.skip (by rfl) ?_
      simp only [Act.put, List.setIfInBounds_toArray, List.set_cons_zero, List.set_cons_succ]
      refine WL.take (v := ?tv17c33) (by rfl) ?ty17c33 ?tr17c33
      case ty17c33 => (go_simp; first | done | with_reducible rfl)
      simp only [Act.put, List.setIfInBounds_toArray, List.set_cons_zero, List.set_cons_succ]
      refine WL.take (v := ?tv18c34) (by rfl) ?ty18c34 ?tr18c34
      case ty18c34 => (go_simp; first | done | with_reducible rfl)
      simp only [Act.put, List.setIfInBounds_toArray, List.set_cons_zero, List.set_cons_succ]
      refine WL.skip (by rfl) ?_
      simp only [Act.put, List.setIfInBounds_toArray, List.set_cons_zero, List.set_cons_succ]
      refine WL.skip (by rfl) ?_
      simp only [Act.put, List.setIfInBounds_toArray, List.set_cons_zero, List.set_cons_succ]
      refine WL.skip (by rfl) ?_
      simp only [Act.put, List.setIfInBounds_toArray, List.set_cons_zero, List.set_cons_succ]
      refine WL.take (v := ?tv22c35) (by rfl) ?ty22c35 ?tr22c35
      case ty22c35 => (go_simp; first | done | with_reducible rfl)
      simp only [Act.put, List.setIfInBounds_toArray, List.set_cons_zero, List.set_cons_succ]
      refine WL.take (v := ?tv23c36) (by rfl) ?ty23c36 ?tr23c36
      case ty23c36 => (go_simp; first | done | with_reducible rfl)
      simp only [Act.put, List.setIfInBounds_toArray, List.set_cons_zero, List.set_cons_succ]
      refine WL.skip (by rfl) ?_
      simp only [Act.put, List.setIfInBounds_toArray, List.set_cons_zero, List.set_cons_succ]
      refine WL.skip (by rfl) ?_
      simp only [Act.put, List.setIfInBounds_toArray, List.set_cons_zero, List.set_cons_succ]
      refine WL.skip (by rfl) ?_
      simp only [Act.put, List.setIfInBounds_toArray, List.set_cons_zero, List.set_cons_succ]
      refine WL.take (v := ?tv27c37) (by rfl) ?ty27c37 ?tr27c37
      case ty27c37 => (go_simp; first | done | with_reducible rfl)
      simp only [Act.put, List.setIfInBounds_toArray, List.set_cons_zero, List.set_cons_succ]
      refine WL.take (v := ?tv28c38) (by rfl) ?ty28c38 ?tr28c38
      case ty28c38 => (go_simp; first | done | with_reducible rfl)
      simp only [Act.put, List.setIfInBounds_toArray, List.set_cons_zero, List.set_cons_succ]
      refine WL.skip (by rfl) ?_
      simp only [Act.put, List.setIfInBounds_toArray, List.set_cons_zero, List.set_cons_succ]
      refine WL.skip (by rfl) ?_
      simp only [Act.put, List.setIfInBounds_toArray, List.set_cons_zero, List.set_cons_succ]
      refine WL.skip (by rfl) ?_
      simp only [Act.put, List.setIfInBounds_toArray, List.set_cons_zero, List.set_cons_succ]
      refine WL.take (v := ?tv32c39) (by rfl) ?ty32c39 ?tr32c39
      case ty32c39 => (go_simp; first | done | with_reducible rfl)
      simp only [Act.put, List.setIfInBounds_toArray, List.set_cons_zero, List.set_cons_succ]
      refine WL.take (v := ?tv33c40) (by rfl) ?ty33c40 ?tr33c40
      case ty33c40 => (go_simp; first | done | with_reducible rfl)
      simp only [Act.put, List.setIfInBounds_toArray, List.set_cons_zero, List.set_cons_succ]
      refine WL.skip (by rfl) ?_
      simp only [Act.put, List.setIfInBounds_toArray, List.set_cons_zero, List.set_cons_succ]
      refine WL.skip (by rfl) ?_
      simp only [Act.put, List.setIfInBounds_toArray, List.set_cons_zero, List.set_cons_succ]
      refine WL.skip (by rfl) ?_
      simp only [Act.put, List.setIfInBounds_toArray, List.set_cons_zero, List.set_cons_succ]
      refine WL.take (v := ?tv37c41) (by rfl) ?ty37c41 ?tr37c41
      case ty37c41 => (go_simp; first | done | with_reducible rfl)
      simp only [Act.put, List.setIfInBounds_toArray, List.set_cons_zero, List.set_cons_succ]
      refine WL.take (v := ?tv38c42) (by rfl) ?ty38c42 ?tr38c42
      case ty38c42 => (go_simp; first | done | with_reducible rfl)
      simp only [Act.put, List.setIfInBounds_toArray, List.set_cons_zero, List.set_cons_succ]
      refine WL.skip (by rfl) ?_
      simp only [Act.put, List.setIfInBounds_toArray, List.set_cons_zero, List.set_cons_succ]
      refine WL.skip (by rfl) ?_
      simp only [Act.put, List.setIfInBounds_toArray, List.set_cons_zero, List.set_cons_succ]
      refine WL.skip (by rfl) ?_
      simp only [Act.put, List.setIfInBounds_toArray, List.set_cons_zero, List.set_cons_succ]
      refine WL.take (v := ?tv42c43) (by rfl) ?ty42c43 ?tr42c43
      case ty42c43 => (go_simp; first | done | with_reducible rfl)
      simp only [Act.put, List.setIfInBounds_toArray, List.set_cons_zero, List.set_cons_succ]
      refine WL.take (v := ?tv43c44) (by rfl) ?ty43c44 ?tr43c44
      case ty43c44 => (go_simp; first | done | with_reducible rfl)
      simp only [Act.put, List.setIfInBounds_toArray, List.set_cons_zero, List.set_cons_succ]
      refine WL.skip (by rfl) ?_
      simp only [Act.put, List.setIfInBounds_toArray, List.set_cons_zero, List.set_cons_succ]
      refine WL.skip (by rfl) ?_
      simp only [Act.put, List.setIfInBounds_toArray, List.set_cons_zero, List.set_cons_succ]
      refine WL.skip (by rfl) ?_
      simp only [Act.put, List.setIfInBounds_toArray, List.set_cons_zero, List.set_cons_succ]
      refine WL.take (v := ?tv47c45) (by rfl) ?ty47c45 ?tr47c45
      case ty47c45 => (go_simp; first | done | with_reducible rfl)
      simp only [Act.put, List.setIfInBounds_toArray, List.set_cons_zero, List.set_cons_succ]
      refine WL.take (v := ?tv48c46) (by rfl) ?ty48c46 ?tr48c46
      case ty48c46 => (go_simp; first | done | with_reducible rfl)
      simp only [Act.put, List.setIfInBounds_toArray, List.set_cons_zero, List.set_cons_succ]
      refine WL.skip (by rfl) ?_
      simp only [Act.put, List.setIfInBounds_toArray, List.set_cons_zero, List.set_cons_succ]
      refine WL.skip (by rfl) ?_
      simp only [Act.put, List.setIfInBounds_toArray, List.set_cons_zero, List.set_cons_succ]
      refine WL.skip (by rfl) ?_
      simp only [Act.put, List.setIfInBounds_toArray, List.set_cons_zero, List.set_cons_succ]
      refine WL.skip (by rfl) ?_
      simp only [Act.put, List.setIfInBounds_toArray, List.set_cons_zero, List.set_cons_succ]
      refine WL.take (v := ?tv53c47) (by rfl) ?ty53c47 ?tr53c47
      case ty53c47 => (go_simp; first | done | with_reducible rfl)
      simp only [Act.put, List.setIfInBounds_toArray, List.set_cons_zero, List.set_cons_succ]
      refine WL.done ?_
      have hno := Lib.hid (HNO.out (rightM_no (M := ⟨k, f, t, op, cd, key, m, sy, it⟩) 1 (by decide) (decide_eq_false (show ¬ (k ≤ 10) by omega))))
      go_wp2
      go_ret
      exact ⟨by rw [hno.out]; rfl, hb⟩
    · refine WL.take (v := ?tv6c48) (by rfl) ?ty6c48 ?tr6c48
      case ty6c48 => (go_simp; first | done | with_reducible rfl)
      simp only [Act.put, List.setIfInBounds_toArray, List.set_cons_zero, List.set_cons_succ]
      refine WL.take (v := ?tv7c49) (by rfl) ?ty7c49 ?tr7c49
      case ty7c49 => (go_simp; first | done | with_reducible rfl)
      simp only [Act.put, List.setIfInBounds_toArray, List.set_cons_zero, List.set_cons_succ]
      refine WL.take (v := ?tv8c50) (by rfl) ?ty8c50 ?tr8c50
      case ty8c50 => (go_simp; first | done | with_reducible rfl)
      simp only [Act.put, List.setIfInBounds_toArray, List.set_cons_zero, List.set_cons_succ]
      refine WL.take (v := ?tv9c51) (by rfl) ?ty9c51 ?tr9c51
      case ty9c51 => (go_simp; first | done | with_reducible rfl)
      simp only [Act.put, List.setIfInBounds_toArray, List.set_cons_zero, List.set_cons_succ]
      refine WL.take (v := ?tv10c52) (by rfl) ?ty10c52 ?tr10c52
      case ty10c52 => (go_simp; first | done | with_reducible rfl)
      simp only [Act.put, List.setIfInBounds_toArray, List.set_cons_zero, List.set_cons_succ]
      by_cases h11 : f < 0
      · refine WL.take (v := ?tv11c53) (by rfl) ?ty11c53 ?tr11c53
        case ty11c53 => (go_simp; first | done | with_reducible rfl)
        simp only [Act.put, List.setIfInBounds_toArray, List.set_cons_zero, List.set_cons_succ]
        refine WL.take (v := ?tv12c54) (by rfl) ?ty12c54 ?tr12c54
        case ty12c54 => (go_simp; first | done | with_reducible rfl)
        simp only [Act.put, List.setIfInBounds_toArray, List.set_cons_zero, List.set_cons_succ]
        refine WL.take (v := ?tv13c55) (by rfl) ?ty13c55 ?tr13c55
        case ty13c55 => (go_simp; first | done | with_reducible rfl)
        simp only [Act.put, List.setIfInBounds_toArray, List.set_cons_zero, List.set_cons_succ]
        refine WL.skip (by rfl) ?_
        simp only [Act.put, List.setIfInBounds_toArray, List.set_cons_zero, List.set_cons_succ]
        refine WL.skip (by rfl) ?_
        simp only [Act.put, List.setIfInBounds_toArray, List.set_cons_zero, List.set_cons_succ]
        refine WL.skip (by rfl) ?_
        simp only [Act.put, List.setIfInBounds_toArray, List.set_cons_zero, List.set_cons_succ]
        refine WL.take (v := ?tv17c56) (by rfl) ?ty17c56 ?tr17c56
        case ty17c56 => (go_simp; first | done | with_reducible rfl)
        simp only [Act.put, List.setIfInBounds_toArray, List.set_cons_zero, List.set_cons_succ]
        refine WL.take (v := ?tv18c57) (by rfl) ?ty18c57 ?tr18c57
        case ty18c57 => (go_simp; first | done | with_reducible rfl)
        simp only [Act.put, List.setIfInBounds_toArray, List.set_cons_zero, List.set_cons_succ]
        refine WL.skip (by rfl) ?_
        simp only [Act.put, List.setIfInBounds_toArray, List.set_cons_zero, List.set_cons_succ]
        refine WL.skip (by rfl) ?_
        simp only [Act.put, List.setIfInBounds_toArray, List.set_cons_zero, List.set_cons_succ]
        refine WL.skip (by rfl) ?_
        simp only [Act.put, List.setIfInBounds_toArray, List.set_cons_zero, List.set_cons_succ]
        refine WL.take (v := ?tv22c58) (by rfl) ?ty22c58 ?tr22c58
        case ty22c58 => (go_simp; first | done | with_reducible rfl)
        simp only [Act.put, List.setIfInBounds_toArray, List.set_cons_zero, List.set_cons_succ]
        refine WL.take (v := ?tv23c59) (by rfl) ?ty23c59 ?tr23c59
        case ty23c59 => (go_simp; first | done | with_reducible rfl)
        simp only [Act.put, List.setIfInBounds_toArray, List.set_cons_zero, List.set_cons_succ]
        refine WL.skip (by rfl) ?_
        simp only [Act.put, List.setIfInBounds_toArray, List.set_cons_zero, List.set_cons_succ]
        refine WL.skip (by rfl) ?_
        simp only [Act.put, List.setIfInBounds_toArray, List.set_cons_zero, List.set_cons_succ]
        refine WL.skip (by rfl) ?_
        simp only [Act.put, List.setIfInBounds_toArray, List.set_cons_zero, List.set_cons_succ]
        refine WL.take (v := ?tv27c60) (by rfl) ?ty27c60 ?tr27c60
        case ty27c60 => (go_simp; first | done | with_reducible rfl)
        simp only [Act.put, List.setIfInBounds_toArray, List.set_cons_zero, List.set_cons_succ]
        refine WL.take (v := ?tv28c61) (by rfl) ?ty28c61 ?tr28c61
        case ty28c61 => (go_simp; first | done | with_reducible rfl)
        simp only [Act.put, List.setIfInBounds_toArray, List.set_cons_zero, List.set_cons_succ]
        refine WL.skip (by rfl) ?_
        simp only [Act.put, List.setIfInBounds_toArray, List.set_cons_zero, List.set_cons_succ]
        refine WL.skip (by rfl) ?_
        simp only [Act.put, List.setIfInBounds_toArray, List.set_cons_zero, List.set_cons_succ]
        refine WL.skip (by rfl) ?_
        simp only [Act.put, List.setIfInBounds_toArray, List.set_cons_zero, List.set_cons_succ]
        refine WL.take (v := ?tv32c62) (by rfl) ?ty32c62 ?tr32c62
        case ty32c62 => (go_simp; first | done | with_reducible rfl)
        simp only [Act.put, List.setIfInBounds_toArray, List.set_cons_zero, List.set_cons_succ]
        refine WL.take (v := ?tv33c63) (by rfl) ?ty33c63 ?tr33c63
        case ty33c63 => (go_simp; first | done | with_reducible rfl)
        simp only [Act.put, List.setIfInBounds_toArray, List.set_cons_zero, List.set_cons_succ]
        refine WL.skip (by rfl) ?_
        simp only [Act.put, List.setIfInBounds_toArray, List.set_cons_zero, List.set_cons_succ]
        refine WL.skip (by rfl) ?_
        simp only [Act.put, List.setIfInBounds_toArray, List.set_cons_zero, List.set_cons_succ]
        refine WL.skip (by rfl) ?_
        simp only [Act.put, List.setIfInBounds_toArray, List.set_cons_zero, List.set_cons_succ]
        refine WL.take (v := ?tv37c64) (by rfl) ?ty37c64 ?tr37c64
        case ty37c64 => (go_simp; first | done | with_reducible rfl)
        simp only [Act.put, List.setIfInBounds_toArray, List.set_cons_zero, List.set_cons_succ]
        refine WL.take (v := ?tv38c65) (by rfl) ?ty38c65 ?tr38c65
        case ty38c65 => (go_simp; first | done | with_reducible rfl)
        simp only [Act.put, List.setIfInBounds_toArray, List.set_cons_zero, List.set_cons_succ]
        refine WL.skip (by rfl) ?_
        simp only [Act.put, List.setIfInBounds_toArray, List.set_cons_zero, List.set_cons_succ]
        refine WL.skip (by rfl) ?_
        simp only [Act.put, List.setIfInBounds_toArray, List.set_cons_zero, List.set_cons_succ]
        refine WL.skip (by rfl) ?_
        simp only [Act.put, List.setIfInBounds_toArray, List.set_cons_zero, List.set_cons_succ]
        refine WL.take (v := ?tv42c66) (by rfl) ?ty42c66 ?tr42c66
        case ty42c66 => (go_simp; first | done | with_reducible rfl)
        simp only [Act.put, List.setIfInBounds_toArray, List.set_cons_zero, List.set_cons_succ]
        refine WL.take (v := ?tv43c67) (by rfl) ?ty43c67 ?tr43c67
        case ty43c67 => (go_simp; first | done | with_reducible rfl)
        simp only [Act.put, List.setIfInBounds_toArray, List.set_cons_zero, List.set_cons_succ]
        refine WL.skip (by rfl) ?_
        simp only [Act.put, List.setIfInBounds_toArray, List.set_cons_zero, List.set_cons_succ]
        refine WL.skip (by rfl) ?_
        simp only [Act.put, List.setIfInBounds_toArray, List.set_cons_zero, List.set_cons_succ]
        refine WL.skip (by rfl) ?_
        simp only [Act.put, List.setIfInBounds_toArray, List.set_cons_zero, List.set_cons_succ]
        refine WL.take (v := ?tv47c68) (by rfl) ?ty47c68 ?tr47c68
        case ty47c68 => (go_simp; first | done | with_reducible rfl)
        simp only [Act.put, List.setIfInBounds_toArray, List.set_cons_zero, List.set_cons_succ]
        refine WL.take (v := ?tv48c69) (by rfl) ?ty48c69 ?tr48c69
        case ty48c69 => (go_simp; first | done | with_reducible rfl)
        simp only [Act.put, List.setIfInBounds_toArray, List.set_cons_zero, List.set_cons_succ]
        refine WL.skip (by rfl) ?_
        simp only [Act.put, List.setIfInBounds_toArray, List.set_cons_zero, List.set_cons_succ]
        refine WL.skip (by rfl) ?_
        simp only [Act.put, List.setIfInBounds_toArray, List.set_cons_zero, List.set_cons_succ]
        refine WL.skip (by rfl) ?_
        simp only [Act.put, List.setIfInBounds_toArray, List.set_cons_zero, List.set_cons_succ]
        refine WL.skip (by rfl) ?_
        simp only [Act.put, List.setIfInBounds_toArray, List.set_cons_zero, List.set_cons_succ]
        refine WL.take (v := ?tv53c70) (by rfl) ?ty53c70 ?tr53c70
        case ty53c70 => (go_simp; first | done | with_reducible rfl)
        simp only [Act.put, List.setIfInBounds_toArray, List.set_cons_zero, List.set_cons_succ]
        refine WL.done ?_
        have hno := Lib.hid (HNO.out (rightM_no (M := ⟨k, f, t, op, cd, key, m, sy, it⟩) 2 (by decide) (decide_eq_false (show ¬ (0 ≤ f ∧ f ≤ 11) by omega))))
        go_wp2
        go_ret
        exact ⟨by rw [hno.out]; rfl, hb⟩
      · refine WL.take (v := ?tv11c71) (by rfl) ?ty11c71 ?tr11c71
        case ty11c71 => (go_simp; first | done | with_reducible rfl)
        simp only [Act.put, List.setIfInBounds_toArray, List.set_cons_zero, List.set_cons_succ]
        refine WL.take (v := ?tv12c72) (by rfl) ?ty12c72 ?tr12c72
        case ty12c72 => (go_simp; first | done | with_reducible rfl)
        simp only [Act.put, List.setIfInBounds_toArray, List.set_cons_zero, List.set_cons_succ]
        refine WL.take (v := ?tv13c73) (by rfl) ?ty13c73 ?tr13c73
        case ty13c73 => (go_simp; first | done | with_reducible rfl)
        simp only [Act.put, List.setIfInBounds_toArray, List.set_cons_zero, List.set_cons_succ]
        refine WL.take (v := ?tv14c74) (by rfl) ?ty14c74 ?tr14c74
        case ty14c74 => (go_simp; first | done | with_reducible rfl)
        simp only [Act.put, List.setIfInBounds_toArray, List.set_cons_zero, List.set_cons_succ]
        refine WL.take (v := ?tv15c75) (by rfl) ?ty15c75 ?tr15c75
        case ty15c75 => (go_simp; first | done | with_reducible rfl)
        simp only [Act.put, List.setIfInBounds_toArray, List.set_cons_zero, List.set_cons_succ]
        by_cases h16 : 11 < f
        · refine WL.take (v := ?tv16c76) (by rfl) ?ty16c76 ?tr16c76
          case ty16c76 => (go_simp; first | done | with_reducible rfl)
          simp only [Act.put, List.setIfInBounds_toArray, List.set_cons_zero, List.set_cons_succ]
          refine WL.take (v := ?tv17c77) (by rfl) ?ty17c77 ?tr17c77
          case ty17c77 => (go_simp; first | done | with_reducible rfl)
          simp only [Act.put, List.setIfInBounds_toArray, List.set_cons_zero, List.set_cons_succ]
          refine WL.take (v := ?tv18c78) (by rfl) ?ty18c78 ?tr18c78
          case ty18c78 => (go_simp; first | done | with_reducible rfl)
          simp only [Act.put, List.setIfInBounds_toArray, List.set_cons_zero, List.set_cons_succ]
          refine WL.skip (by rfl) ?_
          simp only [Act.put, List.setIfInBounds_toArray, List.set_cons_zero, List.set_cons_succ]
          refine WL.skip (by rfl) ?_
          simp only [Act.put, List.setIfInBounds_toArray, List.set_cons_zero, List.set_cons_succ]
          refine WL.skip (by rfl) ?_
          simp only [Act.put, List.setIfInBounds_toArray, List.set_cons_zero, List.set_cons_succ]
          refine WL.take (v := ?tv22c79) (by rfl) ?ty22c79 ?tr22c79
          case ty22c79 => (go_simp; first | done | with_reducible rfl)
          simp only [Act.put, List.setIfInBounds_toArray, List.set_cons_zero, List.set_cons_succ]
          refine WL.take (v := ?tv23c80) (by rfl) ?ty23c80 ?tr23c80
          case ty23c80 => (go_simp; first | done | with_reducible rfl)
          simp only [Act.put, List.setIfInBounds_toArray, List.set_cons_zero, List.set_cons_succ]
          refine WL.skip (by rfl) ?_
          simp only [Act.put, List.setIfInBounds_toArray, List.set_cons_zero, List.set_cons_succ]
          refine WL.skip (by rfl) ?_
          simp only [Act.put, List.setIfInBounds_toArray, List.set_cons_zero, List.set_cons_succ]
          refine WL.skip (by rfl) ?_
          simp only [Act.put, List.setIfInBounds_toArray, List.set_cons_zero, List.set_cons_succ]
          refine WL.take (v := ?tv27c81) (by rfl) ?ty27c81 ?tr27c81
          case ty27c81 => (go_simp; first | done | with_reducible rfl)
          simp only [Act.put, List.setIfInBounds_toArray, List.set_cons_zero, List.set_cons_succ]
          refine WL.take (v := ?tv28c82) (by rfl) ?ty28c82 ?tr28c82
          case ty28c82 => (go_simp; first | done | with_reducible rfl)
          simp only [Act.put, List.setIfInBounds_toArray, List.set_cons_zero, List.set_cons_succ]
          refine WL.skip (by rfl) ?_
          simp only [Act.put, List.setIfInBounds_toArray, List.set_cons_zero, List.set_cons_succ]
          refine WL.skip (by rfl) ?_
          simp only [Act.put, List.setIfInBounds_toArray, List.set_cons_zero, List.set_cons_succ]
          refine WL.skip (by rfl) ?_
          simp only [Act.put, List.setIfInBounds_toArray, List.set_cons_zero, List.set_cons_succ]
          refine WL.take (v := ?tv32c83) (by rfl) ?ty32c83 ?tr32c83
          case ty32c83 => (go_simp; first | done | with_reducible rfl)
          simp only [Act.put, List.setIfInBounds_toArray, List.set_cons_zero, List.set_cons_succ]
          refine WL.take (v := ?tv33c84) (by rfl) ?ty33c84 ?tr33c84
          case ty33c84 => (go_simp; first | done | with_reducible rfl)
          simp only [Act.put, List.setIfInBounds_toArray, List.set_cons_zero, List.set_cons_succ]
          refine WL.skip (by rfl) ?_
          simp only [Act.put, List.setIfInBounds_toArray, List.set_cons_zero, List.set_cons_succ]
          refine WL.skip (by rfl) ?_
          simp only [Act.put, List.setIfInBounds_toArray, List.set_cons_zero, List.set_cons_succ]
          refine WL.skip (by rfl) ?_
          simp only [Act.put, List.setIfInBounds_toArray, List.set_cons_zero, List.set_cons_succ]
          refine WL.take (v := ?tv37c85) (by rfl) ?ty37c85 ?tr37c85
          case ty37c85 => (go_simp; first | done | with_reducible rfl)
          simp only [Act.put, List.setIfInBounds_toArray, List.set_cons_zero, List.set_cons_succ]
          refine WL.take (v := ?tv38c86) (by rfl) ?ty38c86 ?tr38c86
          case ty38c86 => (go_simp; first | done | with_reducible rfl)
          simp only [Act.put, List.setIfInBounds_toArray, List.set_cons_zero, List.set_cons_succ]
          refine WL.skip (by rfl) ?_
          simp only [Act.put, List.setIfInBounds_toArray, List.set_cons_zero, List.set_cons_succ]
          refine WL.skip (by rfl) ?_
          simp only [Act.put, List.setIfInBounds_toArray, List.set_cons_zero, List.set_cons_succ]
          refine WL.skip (by rfl) ?_
          simp only [Act.put, List.setIfInBounds_toArray, List.set_cons_zero, List.set_cons_succ]
          refine WL.take (v := ?tv42c87) (by rfl) ?ty42c87 ?tr42c87
          case ty42c87 => (go_simp; first | done | with_reducible rfl)
          simp only [Act.put, List.setIfInBounds_toArray, List.set_cons_zero, List.set_cons_succ]
          refine WL.take (v := ?tv43c88) (by rfl) ?ty43c88 ?tr43c88
          case ty43c88 => (go_simp; first | done | with_reducible rfl)
          simp only [Act.put, List.setIfInBounds_toArray, List.set_cons_zero, List.set_cons_succ]
          refine WL.skip (by rfl) ?_
          simp only [Act.put, List.setIfInBounds_toArray, List.set_cons_zero, List.set_cons_succ]
          refine WL.skip (by rfl) ?_
          simp only [Act.put, List.setIfInBounds_toArray, List.set_cons_zero, List.set_cons_succ]
          refine WL.skip (by rfl) ?_
          simp only [Act.put, List.setIfInBounds_toArray, List.set_cons_zero, List.set_cons_succ]
          refine WL.take (v := ?tv47c89) (by rfl) ?ty47c89 ?tr47c89
          case ty47c89 => (go_simp; first | done | with_reducible rfl)
          simp only [Act.put, List.setIfInBounds_toArray, List.set_cons_zero, List.set_cons_succ]
          refine WL.take (v := ?tv48c90) (by rfl) ?ty48c90 ?tr48c90
          case ty48c90 => (go_simp; first | done | with_reducible rfl)
          simp only [Act.put, List.setIfInBounds_toArray, List.set_cons_zero, List.set_cons_succ]
          refine WL.skip (by rfl) ?_
          simp only [Act.put, List.setIfInBounds_toArray, List.set_cons_zero, List.set_cons_succ]
          refine WL.skip (by rfl) ?_
          simp only [Act.put, List.setIfInBounds_toArray, List.set_cons_zero, List.set_cons_succ]
          refine WL.skip (by rfl) ?_
          simp only [Act.put, List.setIfInBounds_toArray, List.set_cons_zero, List.set_cons_succ]
          refine WL.skip (by rfl) ?_
          simp only [Act.put, List.setIfInBounds_toArray, List.set_cons_zero, List.set_cons_succ]
          refine WL.take (v := ?tv53c91) (by rfl) ?ty53c91 ?tr53c91
          case ty53c91 => (go_simp; first | done | with_reducible rfl)
          simp only [Act.put, List.setIfInBounds_toArray, List.set_cons_zero, List.set_cons_succ]
          refine WL.done ?_
          have hno := Lib.hid (HNO.out (rightM_no (M := ⟨k, f, t, op, cd, key, m, sy, it⟩) 2 (by decide) (decide_eq_false (show ¬ (0 ≤ f ∧ f ≤ 11) by omega))))
          go_wp2
          go_ret
          exact ⟨by rw [hno.out]; rfl, hb⟩
        · refine WL.take (v := ?tv16c92) (by rfl) ?ty16c92 ?tr16c92
          case ty16c92 => (go_simp; first | done | with_reducible rfl)
          simp only [Act.put, List.setIfInBounds_toArray, List.set_cons_zero, List.set_cons_succ]
          refine WL.take (v := ?tv17c93) (by rfl) ?ty17c93 ?tr17c93
          case ty17c93 => (go_simp; first | done | with_reducible rfl)
          simp only [Act.put, List.setIfInBounds_toArray, List.set_cons_zero, List.set_cons_succ]
          refine WL.take (v := ?tv18c94) (by rfl) ?ty18c94 ?tr18c94
          case ty18c94 => (go_simp; first | done | with_reducible rfl)
          simp only [Act.put, List.setIfInBounds_toArray, List.set_cons_zero, List.set_cons_succ]
          refine WL.take (v := ?tv19c95) (by rfl) ?ty19c95 ?tr19c95
          case ty19c95 => (go_simp; first | done | with_reducible rfl)
          simp only [Act.put, List.setIfInBounds_toArray, List.set_cons_zero, List.set_cons_succ]
          refine WL.take (v := ?tv20c96) (by rfl) ?ty20c96 ?tr20c96
          case ty20c96 => (go_simp; first | done | with_reducible rfl)
          simp only [Act.put, List.setIfInBounds_toArray, List.set_cons_zero, List.set_cons_succ]
          by_cases h21 : t < 0
          · refine WL.take (v := ?tv21c97) (by rfl) ?ty21c97 ?tr21c97
            case ty21c97 => (go_simp; first | done | with_reducible rfl)
            simp only [Act.put, List.setIfInBounds_toArray, List.set_cons_zero, List.set_cons_succ]
            refine WL.take (v := ?tv22c98) (by rfl) ?ty22c98 ?tr22c98
            case ty22c98 => (go_simp; first | done | with_reducible rfl)
            simp only [Act.put, List.setIfInBounds_toArray, List.set_cons_zero, List.set_cons_succ]
            refine WL.take (v := ?tv23c99) (by rfl) ?ty23c99 ?tr23c99
            case ty23c99 => (go_simp; first | done | with_reducible rfl)
            simp only [Act.put, List.setIfInBounds_toArray, List.set_cons_zero, List.set_cons_succ]
            refine WL.skip (by rfl) ?_
            simp only [Act.put, List.setIfInBounds_toArray, List.set_cons_zero, List.set_cons_succ]
            refine WL.skip (by rfl) ?_
            simp only [Act.put, List.setIfInBounds_toArray, List.set_cons_zero, List.set_cons_succ]
            refine WL.skip (by rfl) ?_
            simp only [Act.put, List.setIfInBounds_toArray, List.set_cons_zero, List.set_cons_succ]
            refine WL.take (v := ?tv27c100) (by rfl) ?ty27c100 ?tr27c100
            case ty27c100 => (go_simp; first | done | with_reducible rfl)
            simp only [Act.put, List.setIfInBounds_toArray, List.set_cons_zero, List.set_cons_succ]
            refine WL.take (v := ?tv28c101) (by rfl) ?ty28c101 ?tr28c101
            case ty28c101 => (go_simp; first | done | with_reducible rfl)
            simp only [Act.put, List.setIfInBounds_toArray, List.set_cons_zero, List.set_cons_succ]
            refine WL.skip (by rfl) ?_
            simp only [Act.put, List.setIfInBounds_toArray, List.set_cons_zero, List.set_cons_succ]
            refine WL.skip (by rfl) ?_
            simp only [Act.put, List.setIfInBounds_toArray, List.set_cons_zero, List.set_cons_succ]
            refine WL.skip (by rfl) ?_
            simp only [Act.put, List.setIfInBounds_toArray, List.set_cons_zero, List.set_cons_succ]
            refine WL.take (v := ?tv32c102) (by rfl) ?ty32c102 ?tr32c102
            case ty32c102 => (go_simp; first | done | with_reducible rfl)
            simp only [Act.put, List.setIfInBounds_toArray, List.set_cons_zero, List.set_cons_succ]
            refine WL.take (v := ?tv33c103) (by rfl) ?ty33c103 ?tr33c103
            case ty33c103 => (go_simp; first | done | with_reducible rfl)
            simp only [Act.put, List.setIfInBounds_toArray, List.set_cons_zero, List.set_cons_succ]
            refine WL.skip (by rfl) ?_
            simp only [Act.put, List.setIfInBounds_toArray, List.set_cons_zero, List.set_cons_succ]
            refine WL.skip (by rfl) ?_
            simp only [Act.put, List.setIfInBounds_toArray, List.set_cons_zero, List.set_cons_succ]
            refine WL.skip (by rfl) ?_
            simp only [Act.put, List.setIfInBounds_toArray, List.set_cons_zero, List.set_cons_succ]
            refine WL.take (v := ?tv37c104) (by rfl) ?ty37c104 ?tr37c104
            case ty37c104 => (go_simp; first | done | with_reducible rfl)
            simp only [Act.put, List.setIfInBounds_toArray, List.set_cons_zero, List.set_cons_succ]
            refine WL.take (v := ?tv38c105) (by rfl) ?ty38c105 ?tr38c105
            case ty38c105 => (go_simp; first | done | with_reducible rfl)
            simp only [Act.put, List.setIfInBounds_toArray, List.set_cons_zero, List.set_cons_succ]
            refine WL.skip (by rfl) ?_
            simp only [Act.put, List.setIfInBounds_toArray, List.set_cons_zero, List.set_cons_succ]
            refine WL.skip (by rfl) ?_
            simp only [Act.put, List.setIfInBounds_toArray, List.set_cons_zero, List.set_cons_succ]
            refine WL.skip (by rfl) ?_
            simp only [Act.put, List.setIfInBounds_toArray, List.set_cons_zero, List.set_cons_succ]
            refine WL.take (v := ?tv42c106) (by rfl) ?ty42c106 ?tr42c106
            case ty42c106 => (go_simp; first | done | with_reducible rfl)
            simp only [Act.put, List.setIfInBounds_toArray, List.set_cons_zero, List.set_cons_succ]
            refine WL.take (v := ?tv43c107) (by rfl) ?ty43c107 ?tr43c107
            case ty43c107 => (go_simp; first | done | with_reducible rfl)
            simp only [Act.put, List.setIfInBounds_toArray, List.set_cons_zero, List.set_cons_succ]
            refine WL.skip (by rfl) ?_
            simp only [Act.put, List.setIfInBounds_toArray, List.set_cons_zero, List.set_cons_succ]
            refine WL.skip (by rfl) ?_
            simp only [Act.put, List.setIfInBounds_toArray, List.set_cons_zero, List.set_cons_succ]
            refine WL.skip (by rfl) ?_
            simp only [Act.put, List.setIfInBounds_toArray, List.set_cons_zero, List.set_cons_succ]
            refine WL.take (v := ?tv47c108) (by rfl) ?ty47c108 ?tr47c108
            case ty47c108 => (go_simp; first | done | with_reducible rfl)
            simp only [Act.put, List.setIfInBounds_toArray, List.set_cons_zero, List.set_cons_succ]
            refine WL.take (v := ?tv48c109) (by rfl) ?ty48c109 ?tr48c109
            case ty48c109 => (go_simp; first | done | with_reducible rfl)
            simp only [Act.put, List.setIfInBounds_toArray, List.set_cons_zero, List.set_cons_succ]
            refine WL.skip (by rfl) ?_
            simp only [Act.put, List.setIfInBounds_toArray, List.set_cons_zero, List.set_cons_succ]
            refine WL.skip (by rfl) ?_
            simp only [Act.put, List.setIfInBounds_toArray, List.set_cons_zero, List.set_cons_succ]
            refine WL.skip (by rfl) ?_
            simp only [Act.put, List.setIfInBounds_toArray, List.set_cons_zero, List.set_cons_succ]
            refine WL.skip (by rfl) ?_
            simp only [Act.put, List.setIfInBounds_toArray, List.set_cons_zero, List.set_cons_succ]
            refine WL.take (v := ?tv53c110) (by rfl) ?ty53c110 ?tr53c110
            case ty53c110 => (go_simp; first | done | with_reducible rfl)
            simp only [Act.put, List.setIfInBounds_toArray, List.set_cons_zero, List.set_cons_succ]
            refine WL.done ?_
            have hno := Lib.hid (HNO.out (rightM_no (M := ⟨k, f, t, op, cd, key, m, sy, it⟩) 3 (by decide) (decide_eq_false (show ¬ (0 ≤ t ∧ t ≤ 11) by omega))))
            go_wp2
            go_ret
            exact ⟨by rw [hno.out]; rfl, hb⟩
          · refine WL.take (v := ?tv21c111) (by rfl) ?ty21c111 ?tr21c111
            case ty21c111 => (go_simp; first | done | with_reducible rfl)
            simp only [Act.put, List.setIfInBounds_toArray, List.set_cons_zero, List.set_cons_succ]
            refine WL.take (v := ?tv22c112) (by rfl) ?ty22c112 ?tr22c112
            case ty22c112 => (go_simp; first | done | with_reducible rfl)
            simp only [Act.put, List.setIfInBounds_toArray, List.set_cons_zero, List.set_cons_succ]
            refine WL.take (v := ?tv23c113) (by rfl) ?ty23c113 ?tr23c113
            case ty23c113 => (go_simp; first | done | with_reducible rfl)
            simp only [Act.put, List.setIfInBounds_toArray, List.set_cons_zero, List.set_cons_succ]
            refine WL.take (v := ?tv24c114) (by rfl) ?ty24c114 ?tr24c114
            case ty24c114 => (go_simp; first | done | with_reducible rfl)
            simp only [Act.put, List.setIfInBounds_toArray, List.set_cons_zero, List.set_cons_succ]
            refine WL.take (v := ?tv25c115) (by rfl) ?ty25c115 ?tr25c115
            case ty25c115 => (go_simp; first | done | with_reducible rfl)
            simp only [Act.put, List.setIfInBounds_toArray, List.set_cons_zero, List.set_cons_succ]
            by_cases h26 : 11 < t
            · refine WL.take (v := ?tv26c116) (by rfl) ?ty26c116 ?tr26c116
              case ty26c116 => (go_simp; first | done | with_reducible rfl)
              simp only [Act.put, List.setIfInBounds_toArray, List.set_cons_zero, List.set_cons_succ]
              refine WL.take (v := ?tv27c117) (by rfl) ?ty27c117 ?tr27c117
              case ty27c117 => (go_simp; first | done | with_reducible rfl)
              simp only [Act.put, List.setIfInBounds_toArray, List.set_cons_zero, List.set_cons_succ]
              refine WL.take (v := ?tv28c118) (by rfl) ?ty28c118 ?tr28c118
              case ty28c118 => (go_simp; first | done | with_reducible rfl)
              simp only [Act.put, List.setIfInBounds_toArray, List.set_cons_zero, List.set_cons_succ]
              refine WL.skip (by rfl) ?_
              simp only [Act.put, List.setIfInBounds_toArray, List.set_cons_zero, List.set_cons_succ]
              refine WL.skip (by rfl) ?_
              simp only [Act.put, List.setIfInBounds_toArray, List.set_cons_zero, List.set_cons_succ]
              refine WL.skip (by rfl) ?_
              simp only [Act.put, List.setIfInBounds_toArray, List.set_cons_zero, List.set_cons_succ]
              refine WL.take (v := ?tv32c119) (by rfl) ?ty32c119 ?tr32c119
              case ty32c119 => (go_simp; first | done | with_reducible rfl)
              simp only [Act.put, List.setIfInBounds_toArray, List.set_cons_zero, List.set_cons_succ]
              refine WL.take (v := ?tv33c120) (by rfl) ?ty33c120 ?tr33c120
              case ty33c120 => (go_simp; first | done | with_reducible rfl)
              simp only [Act.put, List.setIfInBounds_toArray, List.set_cons_zero, List.set_cons_succ]
              refine WL.skip (by rfl) ?_
              simp only [Act.put, List.setIfInBounds_toArray, List.set_cons_zero, List.set_cons_succ]
              refine WL.skip (by rfl) ?_
              simp only [Act.put, List.setIfInBounds_toArray, List.set_cons_zero, List.set_cons_succ]
              refine WL.skip (by rfl) ?_
              simp only [Act.put, List.setIfInBounds_toArray, List.set_cons_zero, List.set_cons_succ]
              refine WL.take (v := ?tv37c121) (by rfl) ?ty37c121 ?tr37c121
              case ty37c121 => (go_simp; first | done | with_reducible rfl)
              simp only [Act.put, List.setIfInBounds_toArray, List.set_cons_zero, List.set_cons_succ]
              refine WL.take (v := ?tv38c122) (by rfl) ?ty38c122 ?tr38c122
              case ty38c122 => (go_simp; first | done | with_reducible rfl)
              simp only [Act.put, List.setIfInBounds_toArray, List.set_cons_zero, List.set_cons_succ]
              refine WL.skip (by rfl) ?_
              simp only [Act.put, List.setIfInBounds_toArray, List.set_cons_zero, List.set_cons_succ]
              refine WL.skip (by rfl) ?_
              simp only [Act.put, List.setIfInBounds_toArray, List.set_cons_zero, List.set_cons_succ]
              refine WL.skip (by rfl) ?_
              simp only [Act.put, List.setIfInBounds_toArray, List.set_cons_zero, List.set_cons_succ]
              refine WL.take (v := ?tv42c123) (by rfl) ?ty42c123 ?tr42c123
              case ty42c123 => (go_simp; first | done | with_reducible rfl)
              simp only [Act.put, List.setIfInBounds_toArray, List.set_cons_zero, List.set_cons_succ]
              refine WL.take (v := ?tv43c124) (by rfl) ?ty43c124 ?tr43c124
              case ty43c124 => (go_simp; first | done | with_reducible rfl)
              simp only [Act.put, List.setIfInBounds_toArray, List.set_cons_zero, List.set_cons_succ]
              refine WL.skip (by rfl) ?_
              simp only [Act.put, List.setIfInBounds_toArray, List.set_cons_zero, List.set_cons_succ]
              refine WL.skip (by rfl) ?_
              simp only [Act.put, List.setIfInBounds_toArray, List.set_cons_zero, List.set_cons_succ]
              refine WL.skip (by rfl) ?_
              simp only [Act.put, List.setIfInBounds_toArray, List.set_cons_zero, List.set_cons_succ]
              refine WL.take (v := ?tv47c125) (by rfl) ?ty47c125 ?tr47c125
              case ty47c125 => (go_simp; first | done | with_reducible rfl)
              simp only [Act.put, List.setIfInBounds_toArray, List.set_cons_zero, List.set_cons_succ]
              refine WL.take (v := ?tv48c126) (by rfl) ?ty48c126 ?tr48c126
              case ty48c126 => (go_simp; first | done | with_reducible rfl)
              simp only [Act.put, List.setIfInBounds_toArray, List.set_cons_zero, List.set_cons_succ]
              refine WL.skip (by rfl) ?_
              simp only [Act.put, List.setIfInBounds_toArray, List.set_cons_zero, List.set_cons_succ]
              refine WL.skip (by rfl) ?_
              simp only [Act.put, List.setIfInBounds_toArray, List.set_cons_zero, List.set_cons_succ]
              refine WL.skip (by rfl) ?_
              simp only [Act.put, List.setIfInBounds_toArray, List.set_cons_zero, List.set_cons_succ]
              refine WL.skip (by rfl) ?_
              simp only [Act.put, List.setIfInBounds_toArray, List.set_cons_zero, List.set_cons_succ]
              refine WL.take (v := ?tv53c127) (by rfl) ?ty53c127 ?tr53c127
              case ty53c127 => (go_simp; first | done | with_reducible rfl)
              simp only [Act.put, List.setIfInBounds_toArray, List.set_cons_zero, List.set_cons_succ]
              refine WL.done ?_
              have hno := Lib.hid (HNO.out (rightM_no (M := ⟨k, f, t, op, cd, key, m, sy, it⟩) 3 (by decide) (decide_eq_false (show ¬ (0 ≤ t ∧ t ≤ 11) by omega))))
              go_wp2
              go_ret
              exact ⟨by rw [hno.out]; rfl, hb⟩
            · refine WL.take (v := ?tv26c128) (by rfl) ?ty26c128 ?tr26c128
              case ty26c128 => (go_simp; first | done | with_reducible rfl)
              simp only [Act.put, List.setIfInBounds_toArray, List.set_cons_zero, List.set_cons_succ]
              refine WL.take (v := ?tv27c129) (by rfl) ?ty27c129 ?tr27c129
              case ty27c129 => (go_simp; first | done | with_reducible rfl)
              simp only [Act.put, List.setIfInBounds_toArray, List.set_cons_zero, List.set_cons_succ]
              refine WL.take (v := ?tv28c130) (by rfl) ?ty28c130 ?tr28c130
              case ty28c130 => (go_simp; first | done | with_reducible rfl)
              simp only [Act.put, List.setIfInBounds_toArray, List.set_cons_zero, List.set_cons_succ]
              refine WL.take (v := ?tv29c131) (by rfl) ?ty29c131 ?tr29c131
              case ty29c131 => (go_simp; first | done | with_reducible rfl)
              simp only [Act.put, List.setIfInBounds_toArray, List.set_cons_zero, List.set_cons_succ]
              refine WL.take (v := ?tv30c132) (by rfl) ?ty30c132 ?tr30c132
              case ty30c132 => (go_simp; first | done | with_reducible rfl)
              simp only [Act.put, List.setIfInBounds_toArray, List.set_cons_zero, List.set_cons_succ]
              by_cases h31 : op < 0
              · refine WL.take (v := ?tv31c133) (by rfl) ?ty31c133 ?tr31c133
                case ty31c133 => (go_simp; first | done | with_reducible rfl)
                simp only [Act.put, List.setIfInBounds_toArray, List.set_cons_zero, List.set_cons_succ]
                refine WL.take (v := ?tv32c134) (by rfl) ?ty32c134 ?tr32c134
                case ty32c134 => (go_simp; first | done | with_reducible rfl)
                simp only [Act.put, List.setIfInBounds_toArray, List.set_cons_zero, List.set_cons_succ]
                refine WL.take (v := ?tv33c135) (by rfl) ?ty33c135 ?tr33c135
                case ty33c135 => (go_simp; first | done | with_reducible rfl)
                simp only [Act.put, List.setIfInBounds_toArray, List.set_cons_zero, List.set_cons_succ]
                refine WL.skip (by rfl) ?_
                simp only [Act.put, List.setIfInBounds_toArray, List.set_cons_zero, List.set_cons_succ]
                refine WL.skip (by rfl) ?_
                simp only [Act.put, List.setIfInBounds_toArray, List.set_cons_zero, List.set_cons_succ]
                refine WL.skip (by rfl) ?_
                simp only [Act.put, List.setIfInBounds_toArray, List.set_cons_zero, List.set_cons_succ]
                refine WL.take (v := ?tv37c136) (by rfl) ?ty37c136 ?tr37c136
                case ty37c136 => (go_simp; first | done | with_reducible rfl)
                simp only [Act.put, List.setIfInBounds_toArray, List.set_cons_zero, List.set_cons_succ]
                refine WL.take (v := ?tv38c137) (by rfl) ?ty38c137 ?tr38c137
                case ty38c137 => (go_simp; first | done | with_reducible rfl)
                simp only [Act.put, List.setIfInBounds_toArray, List.set_cons_zero, List.set_cons_succ]
                refine WL.skip (by rfl) ?_
                simp only [Act.put, List.setIfInBounds_toArray, List.set_cons_zero, List.set_cons_succ]
                refine WL.skip (by rfl) ?_
                simp only [Act.put, List.setIfInBounds_toArray, List.set_cons_zero, List.set_cons_succ]
                refine WL.skip (by rfl) ?_
                simp only [Act.put, List.setIfInBounds_toArray, List.set_cons_zero, List.set_cons_succ]
                refine WL.take (v := ?tv42c138) (by rfl) ?ty42c138 ?tr42c138
                case ty42c138 => (go_simp; first | done | with_reducible rfl)
                simp only [Act.put, List.setIfInBounds_toArray, List.set_cons_zero, List.set_cons_succ]
                refine WL.take (v := ?tv43c139) (by rfl) ?ty43c139 ?tr43c139
                case ty43c139 => (go_simp; first | done | with_reducible rfl)
                simp only [Act.put, List.setIfInBounds_toArray, List.set_cons_zero, List.set_cons_succ]
                refine WL.skip (by rfl) ?_
                simp only [Act.put, List.setIfInBounds_toArray, List.set_cons_zero, List.set_cons_succ]
                refine WL.skip (by rfl) ?_
                simp only [Act.put, List.setIfInBounds_toArray, List.set_cons_zero, List.set_cons_succ]
                refine WL.skip (by rfl) ?_
                simp only [Act.put, List.setIfInBounds_toArray, List.set_cons_zero, List.set_cons_succ]
                refine WL.take (v := ?tv47c140) (by rfl) ?ty47c140 ?tr47c140
                case ty47c140 => (go_simp; first | done | with_reducible rfl)
                simp only [Act.put, List.setIfInBounds_toArray, List.set_cons_zero, List.set_cons_succ]
                refine WL.take (v := ?tv48c141) (by rfl) ?ty48c141 ?tr48c141
                case ty48c141 => (go_simp; first | done | with_reducible rfl)
                simp only [Act.put, List.setIfInBounds_toArray, List.set_cons_zero, List.set_cons_succ]
                refine WL.skip (by rfl) ?_
                simp only [Act.put, List.setIfInBounds_toArray, List.set_cons_zero, List.set_cons_succ]
                refine WL.skip (by rfl) ?_
                simp only [Act.put, List.setIfInBounds_toArray, List.set_cons_zero, List.set_cons_succ]
                refine WL.skip (by rfl) ?_
                simp only [Act.put, List.setIfInBounds_toArray, List.set_cons_zero, List.set_cons_succ]
                refine WL.skip (by rfl) ?_
                simp only [Act.put, List.setIfInBounds_toArray, List.set_cons_zero, List.set_cons_succ]
                refine WL.take (v := ?tv53c142) (by rfl) ?ty53c142 ?tr53c142
                case ty53c142 => (go_simp; first | done | with_reducible rfl)
                simp only [Act.put, List.setIfInBounds_toArray, List.set_cons_zero, List.set_cons_succ]
                refine WL.done ?_
                have hno := Lib.hid (HNO.out (rightM_no (M := ⟨k, f, t, op, cd, key, m, sy, it⟩) 4 (by decide) (decide_eq_false (show ¬ (0 ≤ op ∧ op ≤ 2147483647) by omega))))
                go_wp2
                go_ret
                exact ⟨by rw [hno.out]; rfl, hb⟩
              · refine WL.take (v := ?tv31c143) (by rfl) ?ty31c143 ?tr31c143
                case ty31c143 => (go_simp; first | done | with_reducible rfl)
                simp only [Act.put, List.setIfInBounds_toArray, List.set_cons_zero, List.set_cons_succ]
                refine WL.take (v := ?tv32c144) (by rfl) ?ty32c144 ?tr32c144
                case ty32c144 => (go_simp; first | done | with_reducible rfl)
                simp only [Act.put, List.setIfInBounds_toArray, List.set_cons_zero, List.set_cons_succ]
                refine WL.take (v := ?tv33c145) (by rfl) ?ty33c145 ?tr33c145
                case ty33c145 => (go_simp; first | done | with_reducible rfl)
                simp only [Act.put, List.setIfInBounds_toArray, List.set_cons_zero, List.set_cons_succ]
                refine WL.take (v := ?tv34c146) (by rfl) ?ty34c146 ?tr34c146
                case ty34c146 => (go_simp; first | done | with_reducible rfl)
                simp only [Act.put, List.setIfInBounds_toArray, List.set_cons_zero, List.set_cons_succ]
                refine WL.take (v := ?tv35c147) (by rfl) ?ty35c147 ?tr35c147
                case ty35c147 => (go_simp; first | done | with_reducible rfl)
                simp only [Act.put, List.setIfInBounds_toArray, List.set_cons_zero, List.set_cons_succ]
                by_cases h36 : 2147483647 < op
                · refine WL.take (v := ?tv36c148) (by rfl) ?ty36c148 ?tr36c148
                  case ty36c148 => (go_simp; first | done | with_reducible rfl)
                  simp only [Act.put, List.setIfInBounds_toArray, List.set_cons_zero, List.set_cons_succ]
                  refine WL.take (v := ?tv37c149) (by rfl) ?ty37c149 ?tr37c149
                  case ty37c149 => (go_simp; first | done | with_reducible rfl)
                  simp only [Act.put, List.setIfInBounds_toArray, List.set_cons_zero, List.set_cons_succ]
                  refine WL.take (v := ?tv38c150) (by rfl) ?ty38c150 ?tr38c150
                  case ty38c150 => (go_simp; first | done | with_reducible rfl)
                  simp only [Act.put, List.setIfInBounds_toArray, List.set_cons_zero, List.set_cons_succ]
                  refine WL.skip (by rfl) ?_
                  simp only [Act.put, List.setIfInBounds_toArray, List.set_cons_zero, List.set_cons_succ]
                  refine WL.skip (by rfl) ?_
                  simp only [Act.put, List.setIfInBounds_toArray, List.set_cons_zero, List.set_cons_succ]
                  refine WL.skip (by rfl) ?_
                  simp only [Act.put, List.setIfInBounds_toArray, List.set_cons_zero, List.set_cons_succ]
                  refine WL.take (v := ?tv42c151) (by rfl) ?ty42c151 ?tr42c151
                  case ty42c151 => (go_simp; first | done | with_reducible rfl)
                  simp only [Act.put, List.setIfInBounds_toArray, List.set_cons_zero, List.set_cons_succ]
                  refine WL.take (v := ?tv43c152) (by rfl) ?ty43c152 ?tr43c152
                  case ty43c152 => (go_simp; first | done | with_reducible rfl)
                  simp only [Act.put, List.setIfInBounds_toArray, List.set_cons_zero, List.set_cons_succ]
                  refine WL.skip (by rfl) ?_
                  simp only [Act.put, List.setIfInBounds_toArray, List.set_cons_zero, List.set_cons_succ]
                  refine WL.skip (by rfl) ?_
                  simp only [Act.put, List.setIfInBounds_toArray, List.set_cons_zero, List.set_cons_succ]
                  refine WL.skip (by rfl) ?_
                  simp only [Act.put, List.setIfInBounds_toArray, List.set_cons_zero, List.set_cons_succ]
                  refine WL.take (v := ?tv47c153) (by rfl) ?ty47c153 ?tr47c153
                  case ty47c153 => (go_simp; first | done | with_reducible rfl)
                  simp only [Act.put, List.setIfInBounds_toArray, List.set_cons_zero, List.set_cons_succ]
                  refine WL.take (v := ?tv48c154) (by rfl) ?ty48c154 ?tr48c154
                  case ty48c154 => (go_simp; first | done | with_reducible rfl)
                  simp only [Act.put, List.setIfInBounds_toArray, List.set_cons_zero, List.set_cons_succ]
                  refine WL.skip (by rfl) ?_
                  simp only [Act.put, List.setIfInBounds_toArray, List.set_cons_zero, List.set_cons_succ]
                  refine WL.skip (by rfl) ?_
                  simp only [Act.put, List.setIfInBounds_toArray, List.set_cons_zero, List.set_cons_succ]
                  refine WL.skip (by rfl) ?_
                  simp only [Act.put, List.setIfInBounds_toArray, List.set_cons_zero, List.set_cons_succ]
                  refine WL.skip (by rfl) ?_
                  simp only [Act.put, List.setIfInBounds_toArray, List.set_cons_zero, List.set_cons_succ]
                  refine WL.take (v := ?tv53c155) (by rfl) ?ty53c155 ?tr53c155
                  case ty53c155 => (go_simp; first | done | with_reducible rfl)
                  simp only [Act.put, List.setIfInBounds_toArray, List.set_cons_zero, List.set_cons_succ]
                  refine WL.done ?_
                  have hno := Lib.hid (HNO.out (rightM_no (M := ⟨k, f, t, op, cd, key, m, sy, it⟩) 4 (by decide) (decide_eq_false (show ¬ (0 ≤ op ∧ op ≤ 2147483647) by omega))))
                  go_wp2
                  go_ret
                  exact ⟨by rw [hno.out]; rfl, hb⟩
                · refine WL.take (v := ?tv36c156) (by rfl) ?ty36c156 ?tr36c156
                  case ty36c156 => (go_simp; first | done | with_reducible rfl)
                  simp only [Act.put, List.setIfInBounds_toArray, List.set_cons_zero, List.set_cons_succ]
                  refine WL.take (v := ?tv37c157) (by rfl) ?ty37c157 ?tr37c157
                  case ty37c157 => (go_simp; first | done | with_reducible rfl)
                  simp only [Act.put, List.setIfInBounds_toArray, List.set_cons_zero, List.set_cons_succ]
                  refine WL.take (v := ?tv38c158) (by rfl) ?ty38c158 ?tr38c158
                  case ty38c158 => (go_simp; first | done | with_reducible rfl)
                  simp only [Act.put, List.setIfInBounds_toArray, List.set_cons_zero, List.set_cons_succ]
                  refine WL.take (v := ?tv39c159) (by rfl) ?ty39c159 ?tr39c159
                  case ty39c159 => (go_simp; first | done | with_reducible rfl)
                  simp only [Act.put, List.setIfInBounds_toArray, List.set_cons_zero, List.set_cons_succ]
                  refine WL.take (v := ?tv40c160) (by rfl) ?ty40c160 ?tr40c160
                  case ty40c160 => (go_simp; first | done | with_reducible rfl)
                  simp only [Act.put, List.setIfInBounds_toArray, List.set_cons_zero, List.set_cons_succ]
                  by_cases h41 : cd < 0
                  · refine WL.take (v := ?tv41c161) (by rfl) ?ty41c161 ?tr41c161
                    case ty41c161 => (go_simp; first | done | with_reducible rfl)
                    simp only [Act.put, List.setIfInBounds_toArray, List.set_cons_zero, List.set_cons_succ]
                    refine WL.take (v := ?tv42c162) (by rfl) ?ty42c162 ?tr42c162
                    case ty42c162 => (go_simp; first | done | with_reducible rfl)
                    simp only [Act.put, List.setIfInBounds_toArray, List.set_cons_zero, List.set_cons_succ]
                    refine WL.take (v := ?tv43c163) (by rfl) ?ty43c163 ?tr43c163
                    case ty43c163 => (go_simp; first | done | with_reducible rfl)
                    simp only [Act.put, List.setIfInBounds_toArray, List.set_cons_zero, List.set_cons_succ]
                    refine WL.skip (by rfl) ?_
                    simp only [Act.put, List.setIfInBounds_toArray, List.set_cons_zero, List.set_cons_succ]
                    refine WL.skip (by rfl) ?_
                    simp only [Act.put, List.setIfInBounds_toArray, List.set_cons_zero, List.set_cons_succ]
                    refine WL.skip (by rfl) ?_
                    simp only [Act.put, List.setIfInBounds_toArray, List.set_cons_zero, List.set_cons_succ]
                    refine WL.take (v := ?tv47c164) (by rfl) ?ty47c164 ?tr47c164
                    case ty47c164 => (go_simp; first | done | with_reducible rfl)
                    simp only [Act.put, List.setIfInBounds_toArray, List.set_cons_zero, List.set_cons_succ]
                    refine WL.take (v := ?tv48c165) (by rfl) ?ty48c165 ?tr48c165
                    case ty48c165 => (go_simp; first | done | with_reducible rfl)
                    simp only [Act.put, List.setIfInBounds_toArray, List.set_cons_zero, List.set_cons_succ]
                    refine WL.skip (by rfl) ?_
                    simp only [Act.put, List.setIfInBounds_toArray, List.set_cons_zero, List.set_cons_succ]
                    refine WL.skip (by rfl) ?_
                    simp only [Act.put, List.setIfInBounds_toArray, List.set_cons_zero, List.set_cons_succ]
                    refine WL.skip (by rfl) ?_
                    simp only [Act.put, List.setIfInBounds_toArray, List.set_cons_zero, List.set_cons_succ]
                    refine WL.skip (by rfl) ?_
                    simp only [Act.put, List.setIfInBounds_toArray, List.set_cons_zero, List.set_cons_succ]
                    refine WL.take (v := ?tv53c166) (by rfl) ?ty53c166 ?tr53c166
                    case ty53c166 => (go_simp; first | done | with_reducible rfl)
                    simp only [Act.put, List.setIfInBounds_toArray, List.set_cons_zero, List.set_cons_succ]
                    refine WL.done ?_
                    have hno := Lib.hid (HNO.out (rightM_no (M := ⟨k, f, t, op, cd, key, m, sy, it⟩) 5 (by decide) (decide_eq_false (show ¬ (0 ≤ cd ∧ cd ≤ 2147483647) by omega))))
                    go_wp2
                    go_ret
                    exact ⟨by rw [hno.out]; rfl, hb⟩
                  · refine WL.take (v := ?tv41c167) (by rfl) ?ty41c167 ?tr41c167
                    case ty41c167 => (go_simp; first | done | with_reducible rfl)
                    simp only [Act.put, List.setIfInBounds_toArray, List.set_cons_zero, List.set_cons_succ]
                    refine WL.take (v := ?tv42c168) (by rfl) ?ty42c168 ?tr42c168
                    case ty42c168 => (go_simp; first | done | with_reducible rfl)
                    simp only [Act.put, List.setIfInBounds_toArray, List.set_cons_zero, List.set_cons_succ]
                    refine WL.take (v := ?tv43c169) (by rfl) ?ty43c169 ?tr43c169
                    case ty43c169 => (go_simp; first | done | with_reducible rfl)
                    simp only [Act.put, List.setIfInBounds_toArray, List.set_cons_zero, List.set_cons_succ]
                    refine WL.take (v := ?tv44c170) (by rfl) ?ty44c170 ?tr44c170
                    case ty44c170 => (go_simp; first | done | with_reducible rfl)
                    simp only [Act.put, List.setIfInBounds_toArray, List.set_cons_zero, List.set_cons_succ]
                    refine WL.take (v := ?tv45c171) (by rfl) ?ty45c171 ?tr45c171
                    case ty45c171 => (go_simp; first | done | with_reducible rfl)
                    simp only [Act.put, List.setIfInBounds_toArray, List.set_cons_zero, List.set_cons_succ]
                    by_cases h46 : 2147483647 < cd
                    · refine WL.take (v := ?tv46c172) (by rfl) ?ty46c172 ?tr46c172
                      case ty46c172 => (go_simp; first | done | with_reducible rfl)
                      simp only [Act.put, List.setIfInBounds_toArray, List.set_cons_zero, List.set_cons_succ]
                      refine WL.take (v := ?tv47c173) (by rfl) ?ty47c173 ?tr47c173
                      case ty47c173 => (go_simp; first | done | with_reducible rfl)
                      simp only [Act.put, List.setIfInBounds_toArray, List.set_cons_zero, List.set_cons_succ]
                      refine WL.take (v := ?tv48c174) (by rfl) ?ty48c174 ?tr48c174
                      case ty48c174 => (go_simp; first | done | with_reducible rfl)
                      simp only [Act.put, List.setIfInBounds_toArray, List.set_cons_zero, List.set_cons_succ]
                      refine WL.skip (by rfl) ?_
                      simp only [Act.put, List.setIfInBounds_toArray, List.set_cons_zero, List.set_cons_succ]
                      refine WL.skip (by rfl) ?_
                      simp only [Act.put, List.setIfInBounds_toArray, List.set_cons_zero, List.set_cons_succ]
                      refine WL.skip (by rfl) ?_
                      simp only [Act.put, List.setIfInBounds_toArray, List.set_cons_zero, List.set_cons_succ]
                      refine WL.skip (by rfl) ?_
                      simp only [Act.put, List.setIfInBounds_toArray, List.set_cons_zero, List.set_cons_succ]
                      refine WL.take (v := ?tv53c175) (by rfl) ?ty53c175 ?tr53c175
                      case ty53c175 => (go_simp; first | done | with_reducible rfl)
                      simp only [Act.put, List.setIfInBounds_toArray, List.set_cons_zero, List.set_cons_succ]
                      refine WL.done ?_
                      have hno := Lib.hid (HNO.out (rightM_no (M := ⟨k, f, t, op, cd, key, m, sy, it⟩) 5 (by decide) (decide_eq_false (show ¬ (0 ≤ cd ∧ cd ≤ 2147483647) by omega))))
                      go_wp2
                      go_ret
                      exact ⟨by rw [hno.out]; rfl, hb⟩
                    · refine WL.take (v := ?tv46c176) (by rfl) ?ty46c176 ?tr46c176
                      case ty46c176 => (go_simp; first | done | with_reducible rfl)
                      simp only [Act.put, List.setIfInBounds_toArray, List.set_cons_zero, List.set_cons_succ]
                      refine WL.take (v := ?tv47c177) (by rfl) ?ty47c177 ?tr47c177
                      case ty47c177 => (go_simp; first | done | with_reducible rfl)
                      simp only [Act.put, List.setIfInBounds_toArray, List.set_cons_zero, List.set_cons_succ]
                      refine WL.take (v := ?tv48c178) (by rfl) ?ty48c178 ?tr48c178
                      case ty48c178 => (go_simp; first | done | with_reducible rfl)
                      simp only [Act.put, List.setIfInBounds_toArray, List.set_cons_zero, List.set_cons_succ]
                      refine WL.take (v := ?tv49c179) (by rfl) ?ty49c179 ?tr49c179
                      case ty49c179 => (go_simp; first | done | with_reducible rfl)
                      simp only [Act.put, List.setIfInBounds_toArray, List.set_cons_zero, List.set_cons_succ]
                      refine WL.take (v := ?tv50c180) (by rfl) ?ty50c180 ?tr50c180
                      case ty50c180 => (go_simp; first | done | with_reducible rfl)
                      simp only [Act.put, List.setIfInBounds_toArray, List.set_cons_zero, List.set_cons_succ]
                      refine WL.take (v := ?tv51c181) (by rfl) ?ty51c181 ?tr51c181
                      case ty51c181 => (go_simp; first | done | with_reducible rfl)
                      simp only [Act.put, List.setIfInBounds_toArray, List.set_cons_zero, List.set_cons_succ]
                      by_cases h52 : 32 < (key.size : Int)
                      · refine WL.take (v := ?tv52c182) (by rfl) ?ty52c182 ?tr52c182
                        case ty52c182 => (go_simp; first | done | with_reducible rfl)
                        simp only [Act.put, List.setIfInBounds_toArray, List.set_cons_zero, List.set_cons_succ]
                        refine WL.take (v := ?tv53c183) (by rfl) ?ty53c183 ?tr53c183
                        case ty53c183 => (go_simp; first | done | with_reducible rfl)
                        simp only [Act.put, List.setIfInBounds_toArray, List.set_cons_zero, List.set_cons_succ]
                        refine WL.done ?_
                        have hno := Lib.hid (HNO.out (rightM_no (M := ⟨k, f, t, op, cd, key, m, sy, it⟩) 6 (by decide) (decide_eq_false (show ¬ (key.size ≤ 32) by omega))))
                        go_wp2
                        go_ret
                        exact ⟨by rw [hno.out]; rfl, hb⟩
                      · refine WL.take (v := ?tv52c184) (by rfl) ?ty52c184 ?tr52c184
                        case ty52c184 => (go_simp; first | done | with_reducible rfl)
                        simp only [Act.put, List.setIfInBounds_toArray, List.set_cons_zero, List.set_cons_succ]
                        refine WL.take (v := ?tv53c185) (by rfl) ?ty53c185 ?tr53c185
                        case ty53c185 => (go_simp; first | done | with_reducible rfl)
                        simp only [Act.put, List.setIfInBounds_toArray, List.set_cons_zero, List.set_cons_succ]
                        refine WL.done ?_
                        have Z0 : cnd ⟨k, f, t, op, cd, key, m, sy, it⟩ 0 = true := decide_eq_true (show 1 ≤ k by omega)
                        have Z1 : cnd ⟨k, f, t, op, cd, key, m, sy, it⟩ 1 = true := decide_eq_true (show k ≤ 10 by omega)
                        have Z2 : cnd ⟨k, f, t, op, cd, key, m, sy, it⟩ 2 = true := decide_eq_true (show 0 ≤ f ∧ f ≤ 11 by omega)
                        have Z3 : cnd ⟨k, f, t, op, cd, key, m, sy, it⟩ 3 = true := decide_eq_true (show 0 ≤ t ∧ t ≤ 11 by omega)
                        have Z4 : cnd ⟨k, f, t, op, cd, key, m, sy, it⟩ 4 = true := decide_eq_true (show 0 ≤ op ∧ op ≤ 2147483647 by omega)
                        have Z5 : cnd ⟨k, f, t, op, cd, key, m, sy, it⟩ 5 = true := decide_eq_true (show 0 ≤ cd ∧ cd ≤ 2147483647 by omega)
                        have Z6 : cnd ⟨k, f, t, op, cd, key, m, sy, it⟩ 6 = true := decide_eq_true (show key.size ≤ 32 by omega)
                        have HZ0 := Lib.hid Z0
                        have HZ1 := Lib.hid Z1
                        have HZ2 := Lib.hid Z2
                        have HZ3 := Lib.hid Z3
                        have HZ4 := Lib.hid Z4
                        have HZ5 := Lib.hid Z5
                        have HZ6 := Lib.hid Z6
                        clear Z0 Z1 Z2 Z3 Z4 Z5 Z6 h2 h6 h11 h16 h21 h26 h31 h36 h41 h46 h52
                        go_upto_region 3 with fail
                        go_cut [81] (fun v wx => ∃ b : Bool, v = .bool b ∧ wx.heap[w.heap.size]? = some (.cells #[.int .i64 k, .int .i64 f, .int .i64 t, .int .i64 op, .int .i64 cd, .string key, .int .i64 m.N, .int .i64 m.c, .int .i64 m.s, .int .i64 m.t, .bool m.d, .slice xa xn xc, .slice sa sy.length sc, .slice ia it.length ic] MMT (0, 0)) ∧ Below w.heap.size w wx ∧ Hid (b = true → R = false) ∧ Hid (b = false → cnd ⟨k, f, t, op, cd, key, m, sy, it⟩ 7 = true ∧ cnd ⟨k, f, t, op, cd, key, m, sy, it⟩ 8 = true ∧ cnd ⟨k, f, t, op, cd, key, m, sy, it⟩ 10 = true ∧ sy.length ≤ 512 ∧ it.length ≤ 100))
                        case first =>
                          have KN := fun w => rnone_any m xa xn xc w HL.out
                          simp only [MC] at KN
                          have KR := fun w => refRight_any m.N m.c m.s m.t m.d xa xn xc w
                          have H7 : Hid (cnd ⟨k, f, t, op, cd, key, m, sy, it⟩ 7 = (metaB m.N m.c m.s m.t m.d xn || noneB m)) := Lib.hid (by rw [← HL.out]; rfl)
                          refine WL.start ?_
                          refine WL.take (v := ?tv0c186) (by rfl) ?ty0c186 ?tr0c186
                          case ty0c186 => (go_simp; first | done | with_reducible rfl)
                          simp only [Act.put, List.setIfInBounds_toArray, List.set_cons_zero, List.set_cons_succ]
                          refine WL.take (v := ?tv1c187) (by rfl) ?ty1c187 ?tr1c187
                          case ty1c187 => (go_simp; first | done | with_reducible rfl)
                          simp only [Act.put, List.setIfInBounds_toArray, List.set_cons_zero, List.set_cons_succ]
                          cases hn : noneB m
                          · refine WL.call (by rfl) (fun K hK => ?_)
                            go_simp
                            rw [hn] at KN
                            (with_reducible refine (KN _).mono ?_)
                            rintro e' w22 ⟨rfl, b2⟩
                            replace hh := (b2.block _ (Array.getElem?_eq_some_iff.1 hh).1).trans hh
                            replace hb := hb.trans (b2.mono hb.size)
                            clear b2 c0 c1 c2 c3 c4 c5 c6 c7 c8 c9 c10 c11 c12 c13
                            obtain ⟨⟨c0, c1, c2, c3, c4, c5, c6⟩, c7, c8, c9, c10, c11, c12, c13⟩ := cells14 hh
                            refine hK.out _ _ ?_
                            clear hK K
                            try simp only [Act.put, List.setIfInBounds_toArray, List.set_cons_zero, List.set_cons_succ]
                            refine WL.take (v := ?tv3c188) (by rfl) ?ty3c188 ?tr3c188
                            case ty3c188 => (go_simp; first | done | with_reducible rfl)
                            simp only [Act.put, List.setIfInBounds_toArray, List.set_cons_zero, List.set_cons_succ]
                            refine WL.take (v := ?tv4c189) (by rfl) ?ty4c189 ?tr4c189
                            case ty4c189 => (go_simp; first | done | with_reducible rfl)
                            simp only [Act.put, List.setIfInBounds_toArray, List.set_cons_zero, List.set_cons_succ]
                            refine WL.take (v := ?tv5c190) (by rfl) ?ty5c190 ?tr5c190
                            case ty5c190 => (go_simp; first | done | with_reducible rfl)
                            simp only [Act.put, List.setIfInBounds_toArray, List.set_cons_zero, List.set_cons_succ]
                            refine WL.take (v := ?tv6c191) (by rfl) ?ty6c191 ?tr6c191
                            case ty6c191 => (go_simp; first | done | with_reducible rfl)
                            simp only [Act.put, List.setIfInBounds_toArray, List.set_cons_zero, List.set_cons_succ]
                            cases hr : metaB m.N m.c m.s m.t m.d xn
                            · refine WL.call (by rfl) (fun K hK => ?_)
                              go_simp
                              rw [hr] at KR
                              (with_reducible refine (KR _).mono ?_)
                              rintro e' w27 ⟨rfl, b2⟩
                              replace hh := (b2.block _ (Array.getElem?_eq_some_iff.1 hh).1).trans hh
                              replace hb := hb.trans (b2.mono hb.size)
                              clear b2 c0 c1 c2 c3 c4 c5 c6 c7 c8 c9 c10 c11 c12 c13
                              obtain ⟨⟨c0, c1, c2, c3, c4, c5, c6⟩, c7, c8, c9, c10, c11, c12, c13⟩ := cells14 hh
                              refine hK.out _ _ ?_
                              clear hK K
                              try simp only [Act.put, List.setIfInBounds_toArray, List.set_cons_zero, List.set_cons_succ]
                              refine WL.take (v := ?tv8c192) (by rfl) ?ty8c192 ?tr8c192
                              case ty8c192 => (go_simp; first | done | with_reducible rfl)
                              simp only [Act.put, List.setIfInBounds_toArray, List.set_cons_zero, List.set_cons_succ]
                              refine WL.take (v := ?tv9c193) (by rfl) ?ty9c193 ?tr9c193
                              case ty9c193 => (go_simp; first | done | with_reducible rfl)
                              simp only [Act.put, List.setIfInBounds_toArray, List.set_cons_zero, List.set_cons_succ]
                              refine WL.take (v := ?tv10c194) (by rfl) ?ty10c194 ?tr10c194
                              case ty10c194 => (go_simp; first | done | with_reducible rfl)
                              simp only [Act.put, List.setIfInBounds_toArray, List.set_cons_zero, List.set_cons_succ]
                              refine WL.skip (by rfl) ?_
                              simp only [Act.put, List.setIfInBounds_toArray, List.set_cons_zero, List.set_cons_succ]
                              refine WL.skip (by rfl) ?_
                              simp only [Act.put, List.setIfInBounds_toArray, List.set_cons_zero, List.set_cons_succ]
                              refine WL.skip (by rfl) ?_
                              simp only [Act.put, List.setIfInBounds_toArray, List.set_cons_zero, List.set_cons_succ]
                              refine WL.skip (by rfl) ?_
                              simp only [Act.put, List.setIfInBounds_toArray, List.set_cons_zero, List.set_cons_succ]
                              refine WL.take (v := ?tv15c195) (by rfl) ?ty15c195 ?tr15c195
                              case ty15c195 => (go_simp; first | done | with_reducible rfl)
                              simp only [Act.put, List.setIfInBounds_toArray, List.set_cons_zero, List.set_cons_succ]
                              refine WL.take (v := ?tv16c196) (by rfl) ?ty16c196 ?tr16c196
                              case ty16c196 => (go_simp; first | done | with_reducible rfl)
                              simp only [Act.put, List.setIfInBounds_toArray, List.set_cons_zero, List.set_cons_succ]
                              refine WL.skip (by rfl) ?_
                              simp only [Act.put, List.setIfInBounds_toArray, List.set_cons_zero, List.set_cons_succ]
                              refine WL.skip (by rfl) ?_
                              simp only [Act.put, List.setIfInBounds_toArray, List.set_cons_zero, List.set_cons_succ]
                              refine WL.skip (by rfl) ?_
                              simp only [Act.put, List.setIfInBounds_toArray, List.set_cons_zero, List.set_cons_succ]
                              refine WL.skip (by rfl) ?_
                              simp only [Act.put, List.setIfInBounds_toArray, List.set_cons_zero, List.set_cons_succ]
                              refine WL.take (v := ?tv21c197) (by rfl) ?ty21c197 ?tr21c197
                              case ty21c197 => (go_simp; first | done | with_reducible rfl)
                              simp only [Act.put, List.setIfInBounds_toArray, List.set_cons_zero, List.set_cons_succ]
                              refine WL.done ?_
                              have hno := Lib.hid (HNO.out (rightM_no (M := ⟨k, f, t, op, cd, key, m, sy, it⟩) 7 (by decide) (by rw [H7.out, hn, hr]; rfl)))
                              go_wp2
                              go_meet
                              exact ⟨true, rfl, hh, hb, Lib.hid (fun _ => hno.out), Lib.hid (fun e => by cases e)⟩
                            · refine WL.call (by rfl) (fun K hK => ?_)
                              go_simp
                              rw [hr] at KR
                              (with_reducible refine (KR _).mono ?_)
                              rintro e' w27 ⟨rfl, b2⟩
                              replace hh := (b2.block _ (Array.getElem?_eq_some_iff.1 hh).1).trans hh
                              replace hb := hb.trans (b2.mono hb.size)
                              clear b2 c0 c1 c2 c3 c4 c5 c6 c7 c8 c9 c10 c11 c12 c13
                              obtain ⟨⟨c0, c1, c2, c3, c4, c5, c6⟩, c7, c8, c9, c10, c11, c12, c13⟩ := cells14 hh
                              refine hK.out _ _ ?_
                              clear hK K
                              try simp only [Act.put, List.setIfInBounds_toArray, List.set_cons_zero, List.set_cons_succ]
                              refine WL.take (v := ?tv8c198) (by rfl) ?ty8c198 ?tr8c198
                              case ty8c198 => (go_simp; first | done | with_reducible rfl)
                              simp only [Act.put, List.setIfInBounds_toArray, List.set_cons_zero, List.set_cons_succ]
                              refine WL.take (v := ?tv9c199) (by rfl) ?ty9c199 ?tr9c199
                              case ty9c199 => (go_simp; first | done | with_reducible rfl)
                              simp only [Act.put, List.setIfInBounds_toArray, List.set_cons_zero, List.set_cons_succ]
                              refine WL.take (v := ?tv10c200) (by rfl) ?ty10c200 ?tr10c200
                              case ty10c200 => (go_simp; first | done | with_reducible rfl)
                              simp only [Act.put, List.setIfInBounds_toArray, List.set_cons_zero, List.set_cons_succ]
                              refine WL.take (v := ?tv11c201) (by rfl) ?ty11c201 ?tr11c201
                              case ty11c201 => (go_simp; first | done | with_reducible rfl)
                              simp only [Act.put, List.setIfInBounds_toArray, List.set_cons_zero, List.set_cons_succ]
                              refine WL.take (v := ?tv12c202) (by rfl) ?ty12c202 ?tr12c202
                              case ty12c202 => (go_simp; first | done | with_reducible rfl)
                              simp only [Act.put, List.setIfInBounds_toArray, List.set_cons_zero, List.set_cons_succ]
                              refine WL.take (v := ?tv13c203) (by rfl) ?ty13c203 ?tr13c203
                              case ty13c203 => (go_simp; first | done | with_reducible rfl)
                              simp only [Act.put, List.setIfInBounds_toArray, List.set_cons_zero, List.set_cons_succ]
                              by_cases h14 : 512 < (sy.length : Int)
                              · refine WL.take (v := ?tv14c204) (by rfl) ?ty14c204 ?tr14c204
                                case ty14c204 => (go_simp; first | done | with_reducible rfl)
                                simp only [Act.put, List.setIfInBounds_toArray, List.set_cons_zero, List.set_cons_succ]
                                refine WL.take (v := ?tv15c205) (by rfl) ?ty15c205 ?tr15c205
                                case ty15c205 => (go_simp; first | done | with_reducible rfl)
                                simp only [Act.put, List.setIfInBounds_toArray, List.set_cons_zero, List.set_cons_succ]
                                refine WL.take (v := ?tv16c206) (by rfl) ?ty16c206 ?tr16c206
                                case ty16c206 => (go_simp; first | done | with_reducible rfl)
                                simp only [Act.put, List.setIfInBounds_toArray, List.set_cons_zero, List.set_cons_succ]
                                refine WL.skip (by rfl) ?_
                                simp only [Act.put, List.setIfInBounds_toArray, List.set_cons_zero, List.set_cons_succ]
                                refine WL.skip (by rfl) ?_
                                simp only [Act.put, List.setIfInBounds_toArray, List.set_cons_zero, List.set_cons_succ]
                                refine WL.skip (by rfl) ?_
                                simp only [Act.put, List.setIfInBounds_toArray, List.set_cons_zero, List.set_cons_succ]
                                refine WL.skip (by rfl) ?_
                                simp only [Act.put, List.setIfInBounds_toArray, List.set_cons_zero, List.set_cons_succ]
                                refine WL.take (v := ?tv21c207) (by rfl) ?ty21c207 ?tr21c207
                                case ty21c207 => (go_simp; first | done | with_reducible rfl)
                                simp only [Act.put, List.setIfInBounds_toArray, List.set_cons_zero, List.set_cons_succ]
                                refine WL.done ?_
                                have hno := Lib.hid (HNO.out (rightM_no (M := ⟨k, f, t, op, cd, key, m, sy, it⟩) 8 (by decide) (decide_eq_false (show ¬ sy.length ≤ 512 by omega))))
                                go_wp2
                                go_meet
                                exact ⟨true, rfl, hh, hb, Lib.hid (fun _ => hno.out), Lib.hid (fun e => by cases e)⟩
                              · refine WL.take (v := ?tv14c208) (by rfl) ?ty14c208 ?tr14c208
                                case ty14c208 => (go_simp; first | done | with_reducible rfl)
                                simp only [Act.put, List.setIfInBounds_toArray, List.set_cons_zero, List.set_cons_succ]
                                refine WL.take (v := ?tv15c209) (by rfl) ?ty15c209 ?tr15c209
                                case ty15c209 => (go_simp; first | done | with_reducible rfl)
                                simp only [Act.put, List.setIfInBounds_toArray, List.set_cons_zero, List.set_cons_succ]
                                refine WL.take (v := ?tv16c210) (by rfl) ?ty16c210 ?tr16c210
                                case ty16c210 => (go_simp; first | done | with_reducible rfl)
                                simp only [Act.put, List.setIfInBounds_toArray, List.set_cons_zero, List.set_cons_succ]
                                refine WL.take (v := ?tv17c211) (by rfl) ?ty17c211 ?tr17c211
                                case ty17c211 => (go_simp; first | done | with_reducible rfl)
                                simp only [Act.put, List.setIfInBounds_toArray, List.set_cons_zero, List.set_cons_succ]
                                refine WL.take (v := ?tv18c212) (by rfl) ?ty18c212 ?tr18c212
                                case ty18c212 => (go_simp; first | done | with_reducible rfl)
                                simp only [Act.put, List.setIfInBounds_toArray, List.set_cons_zero, List.set_cons_succ]
                                refine WL.take (v := ?tv19c213) (by rfl) ?ty19c213 ?tr19c213
                                case ty19c213 => (go_simp; first | done | with_reducible rfl)
                                simp only [Act.put, List.setIfInBounds_toArray, List.set_cons_zero, List.set_cons_succ]
                                by_cases h20 : 100 < (it.length : Int)
                                · refine WL.take (v := ?tv20c214) (by rfl) ?ty20c214 ?tr20c214
                                  case ty20c214 => (go_simp; first | done | with_reducible rfl)
                                  simp only [Act.put, List.setIfInBounds_toArray, List.set_cons_zero, List.set_cons_succ]
                                  refine WL.take (v := ?tv21c215) (by rfl) ?ty21c215 ?tr21c215
                                  case ty21c215 => (go_simp; first | done | with_reducible rfl)
                                  simp only [Act.put, List.setIfInBounds_toArray, List.set_cons_zero, List.set_cons_succ]
                                  refine WL.done ?_
                                  have hno := Lib.hid (HNO.out (rightM_no (M := ⟨k, f, t, op, cd, key, m, sy, it⟩) 10 (by decide) (decide_eq_false (show ¬ it.length ≤ 100 by omega))))
                                  go_wp2
                                  go_meet
                                  exact ⟨true, rfl, hh, hb, Lib.hid (fun _ => hno.out), Lib.hid (fun e => by cases e)⟩
                                · refine WL.take (v := ?tv20c216) (by rfl) ?ty20c216 ?tr20c216
                                  case ty20c216 => (go_simp; first | done | with_reducible rfl)
                                  simp only [Act.put, List.setIfInBounds_toArray, List.set_cons_zero, List.set_cons_succ]
                                  refine WL.take (v := ?tv21c217) (by rfl) ?ty21c217 ?tr21c217
                                  case ty21c217 => (go_simp; first | done | with_reducible rfl)
                                  simp only [Act.put, List.setIfInBounds_toArray, List.set_cons_zero, List.set_cons_succ]
                                  refine WL.done ?_
                                  have Z7 := Lib.hid (show cnd ⟨k, f, t, op, cd, key, m, sy, it⟩ 7 = true from by rw [H7.out, hr]; rfl)
                                  have Z8 := Lib.hid (show cnd ⟨k, f, t, op, cd, key, m, sy, it⟩ 8 = true from decide_eq_true (show sy.length ≤ 512 by omega))
                                  have Z10 := Lib.hid (show cnd ⟨k, f, t, op, cd, key, m, sy, it⟩ 10 = true from decide_eq_true (show it.length ≤ 100 by omega))
                                  have h14' : sy.length ≤ 512 := by omega
                                  have h20' : it.length ≤ 100 := by omega
                                  clear h14 h20
                                  go_wp2
                                  go_meet
                                  exact ⟨false, rfl, hh, hb, Lib.hid (fun e => by cases e), Lib.hid (fun _ => ⟨Z7.out, Z8.out, Z10.out, h14', h20'⟩)⟩
                          · refine WL.call (by rfl) (fun K hK => ?_)
                            go_simp
                            rw [hn] at KN
                            (with_reducible refine (KN _).mono ?_)
                            rintro e' w22 ⟨rfl, b2⟩
                            replace hh := (b2.block _ (Array.getElem?_eq_some_iff.1 hh).1).trans hh
                            replace hb := hb.trans (b2.mono hb.size)
                            clear b2 c0 c1 c2 c3 c4 c5 c6 c7 c8 c9 c10 c11 c12 c13
                            obtain ⟨⟨c0, c1, c2, c3, c4, c5, c6⟩, c7, c8, c9, c10, c11, c12, c13⟩ := cells14 hh
                            refine hK.out _ _ ?_
                            clear hK K
                            try simp only [Act.put, List.setIfInBounds_toArray, List.set_cons_zero, List.set_cons_succ]
                            refine WL.take (v := ?tv3c218) (by rfl) ?ty3c218 ?tr3c218
                            case ty3c218 => (go_simp; first | done | with_reducible rfl)
                            simp only [Act.put, List.setIfInBounds_toArray, List.set_cons_zero, List.set_cons_succ]
                            refine WL.take (v := ?tv4c219) (by rfl) ?ty4c219 ?tr4c219
                            case ty4c219 => (go_simp; first | done | with_reducible rfl)
                            simp only [Act.put, List.setIfInBounds_toArray, List.set_cons_zero, List.set_cons_succ]
                            refine WL.skip (by rfl) ?_
                            simp only [Act.put, List.setIfInBounds_toArray, List.set_cons_zero, List.set_cons_succ]
                            refine WL.skip (by rfl) ?_
                            simp only [Act.put, List.setIfInBounds_toArray, List.set_cons_zero, List.set_cons_succ]
                            refine WL.skip (by rfl) ?_
                            simp only [Act.put, List.setIfInBounds_toArray, List.set_cons_zero, List.set_cons_succ]
                            refine WL.skip (by rfl) ?_
                            simp only [Act.put, List.setIfInBounds_toArray, List.set_cons_zero, List.set_cons_succ]
                            refine WL.take (v := ?tv9c220) (by rfl) ?ty9c220 ?tr9c220
                            case ty9c220 => (go_simp; first | done | with_reducible rfl)
                            simp only [Act.put, List.setIfInBounds_toArray, List.set_cons_zero, List.set_cons_succ]
                            refine WL.take (v := ?tv10c221) (by rfl) ?ty10c221 ?tr10c221
                            case ty10c221 => (go_simp; first | done | with_reducible rfl)
                            simp only [Act.put, List.setIfInBounds_toArray, List.set_cons_zero, List.set_cons_succ]
                            refine WL.take (v := ?tv11c222) (by rfl) ?ty11c222 ?tr11c222
                            case ty11c222 => (go_simp; first | done | with_reducible rfl)
                            simp only [Act.put, List.setIfInBounds_toArray, List.set_cons_zero, List.set_cons_succ]
                            refine WL.take (v := ?tv12c223) (by rfl) ?ty12c223 ?tr12c223
                            case ty12c223 => (go_simp; first | done | with_reducible rfl)
                            simp only [Act.put, List.setIfInBounds_toArray, List.set_cons_zero, List.set_cons_succ]
                            refine WL.take (v := ?tv13c224) (by rfl) ?ty13c224 ?tr13c224
                            case ty13c224 => (go_simp; first | done | with_reducible rfl)
                            simp only [Act.put, List.setIfInBounds_toArray, List.set_cons_zero, List.set_cons_succ]
                            by_cases h14 : 512 < (sy.length : Int)
                            · refine WL.take (v := ?tv14c225) (by rfl) ?ty14c225 ?tr14c225
                              case ty14c225 => (go_simp; first | done | with_reducible rfl)
                              simp only [Act.put, List.setIfInBounds_toArray, List.set_cons_zero, List.set_cons_succ]
                              refine WL.take (v := ?tv15c226) (by rfl) ?ty15c226 ?tr15c226
                              case ty15c226 => (go_simp; first | done | with_reducible rfl)
                              simp only [Act.put, List.setIfInBounds_toArray, List.set_cons_zero, List.set_cons_succ]
                              refine WL.take (v := ?tv16c227) (by rfl) ?ty16c227 ?tr16c227
                              case ty16c227 => (go_simp; first | done | with_reducible rfl)
                              simp only [Act.put, List.setIfInBounds_toArray, List.set_cons_zero, List.set_cons_succ]
                              refine WL.skip (by rfl) ?_
                              simp only [Act.put, List.setIfInBounds_toArray, List.set_cons_zero, List.set_cons_succ]
                              refine WL.skip (by rfl) ?_
                              simp only [Act.put, List.setIfInBounds_toArray, List.set_cons_zero, List.set_cons_succ]
                              refine WL.skip (by rfl) ?_
                              simp only [Act.put, List.setIfInBounds_toArray, List.set_cons_zero, List.set_cons_succ]
                              refine WL.skip (by rfl) ?_
                              simp only [Act.put, List.setIfInBounds_toArray, List.set_cons_zero, List.set_cons_succ]
                              refine WL.take (v := ?tv21c228) (by rfl) ?ty21c228 ?tr21c228
                              case ty21c228 => (go_simp; first | done | with_reducible rfl)
                              simp only [Act.put, List.setIfInBounds_toArray, List.set_cons_zero, List.set_cons_succ]
                              refine WL.done ?_
                              have hno := Lib.hid (HNO.out (rightM_no (M := ⟨k, f, t, op, cd, key, m, sy, it⟩) 8 (by decide) (decide_eq_false (show ¬ sy.length ≤ 512 by omega))))
                              go_wp2
                              go_meet
                              exact ⟨true, rfl, hh, hb, Lib.hid (fun _ => hno.out), Lib.hid (fun e => by cases e)⟩
                            · refine WL.take (v := ?tv14c229) (by rfl) ?ty14c229 ?tr14c229
                              case ty14c229 => (go_simp; first | done | with_reducible rfl)
                              simp only [Act.put, List.setIfInBounds_toArray, List.set_cons_zero, List.set_cons_succ]
                              refine WL.take (v := ?tv15c230) (by rfl) ?ty15c230 ?tr15c230
                              case ty15c230 => (go_simp; first | done | with_reducible rfl)
                              simp only [Act.put, List.setIfInBounds_toArray, List.set_cons_zero, List.set_cons_succ]
                              refine WL.take (v := ?tv16c231) (by rfl) ?ty16c231 ?tr16c231
                              case ty16c231 => (go_simp; first | done | with_reducible rfl)
                              simp only [Act.put, List.setIfInBounds_toArray, List.set_cons_zero, List.set_cons_succ]
                              refine WL.take (v := ?tv17c232) (by rfl) ?ty17c232 ?tr17c232
                              case ty17c232 => (go_simp; first | done | with_reducible rfl)
                              simp only [Act.put, List.setIfInBounds_toArray, List.set_cons_zero, List.set_cons_succ]
                              refine WL.take (v := ?tv18c233) (by rfl) ?ty18c233 ?tr18c233
                              case ty18c233 => (go_simp; first | done | with_reducible rfl)
                              simp only [Act.put, List.setIfInBounds_toArray, List.set_cons_zero, List.set_cons_succ]
                              refine WL.take (v := ?tv19c234) (by rfl) ?ty19c234 ?tr19c234
                              case ty19c234 => (go_simp; first | done | with_reducible rfl)
                              simp only [Act.put, List.setIfInBounds_toArray, List.set_cons_zero, List.set_cons_succ]
                              by_cases h20 : 100 < (it.length : Int)
                              · refine WL.take (v := ?tv20c235) (by rfl) ?ty20c235 ?tr20c235
                                case ty20c235 => (go_simp; first | done | with_reducible rfl)
                                simp only [Act.put, List.setIfInBounds_toArray, List.set_cons_zero, List.set_cons_succ]
                                refine WL.take (v := ?tv21c236) (by rfl) ?ty21c236 ?tr21c236
                                case ty21c236 => (go_simp; first | done | with_reducible rfl)
                                simp only [Act.put, List.setIfInBounds_toArray, List.set_cons_zero, List.set_cons_succ]
                                refine WL.done ?_
                                have hno := Lib.hid (HNO.out (rightM_no (M := ⟨k, f, t, op, cd, key, m, sy, it⟩) 10 (by decide) (decide_eq_false (show ¬ it.length ≤ 100 by omega))))
                                go_wp2
                                go_meet
                                exact ⟨true, rfl, hh, hb, Lib.hid (fun _ => hno.out), Lib.hid (fun e => by cases e)⟩
                              · refine WL.take (v := ?tv20c237) (by rfl) ?ty20c237 ?tr20c237
                                case ty20c237 => (go_simp; first | done | with_reducible rfl)
                                simp only [Act.put, List.setIfInBounds_toArray, List.set_cons_zero, List.set_cons_succ]
                                refine WL.take (v := ?tv21c238) (by rfl) ?ty21c238 ?tr21c238
                                case ty21c238 => (go_simp; first | done | with_reducible rfl)
                                simp only [Act.put, List.setIfInBounds_toArray, List.set_cons_zero, List.set_cons_succ]
                                refine WL.done ?_
                                have Z7 := Lib.hid (show cnd ⟨k, f, t, op, cd, key, m, sy, it⟩ 7 = true from by rw [H7.out, hn]; cases metaB m.N m.c m.s m.t m.d xn <;> rfl)
                                have Z8 := Lib.hid (show cnd ⟨k, f, t, op, cd, key, m, sy, it⟩ 8 = true from decide_eq_true (show sy.length ≤ 512 by omega))
                                have Z10 := Lib.hid (show cnd ⟨k, f, t, op, cd, key, m, sy, it⟩ 10 = true from decide_eq_true (show it.length ≤ 100 by omega))
                                have h14' : sy.length ≤ 512 := by omega
                                have h20' : it.length ≤ 100 := by omega
                                clear h14 h20
                                go_wp2
                                go_meet
                                exact ⟨false, rfl, hh, hb, Lib.hid (fun e => by cases e), Lib.hid (fun _ => ⟨Z7.out, Z8.out, Z10.out, h14', h20'⟩)⟩
                        case rest =>
                          clear hh hb c0 c1 c2 c3 c4 c5 c6 c7 c8 c9 c10 c11 c12 c13
                          rename World => wb
                          obtain ⟨bb, rfl, hh, hb, HBT, HBF⟩ := hcut
                          cases bb with
                          | true =>
                            have hno := Lib.hid (HBT.out rfl)
                            go_wp2
                            go_ret
                            exact ⟨by rw [hno.out]; rfl, hb⟩
                          | false =>
                          have HZ7 := Lib.hid (HBF.out rfl)
                          have h14 : sy.length ≤ 512 := HZ7.out.2.2.2.1
                          have h20 : it.length ≤ 100 := HZ7.out.2.2.2.2
                          have HH := Lib.hid hh
                          obtain ⟨SN, hSN⟩ : ∃ n, n = sy.length := ⟨_, rfl⟩
                          obtain ⟨IN, hIN⟩ : ∃ n, n = it.length := ⟨_, rfl⟩
                          simp only [← hSN] at h14
                          simp only [← hIN] at h20
                          have HSN := Lib.hid hSN
                          have HIN := Lib.hid hIN
                          have hMs : SyV w sa SN sy := by rw [hSN]; exact HMS.out
                          have hMi : ItV w ia IN it := by rw [hIN]; exact HMI.out
                          have HMS := Lib.hid hMs
                          have HMI := Lib.hid hMi
                          have hH14 : ∀ V : World, V.heap[w.heap.size]? = some (.cells #[.int .i64 k, .int .i64 f, .int .i64 t, .int .i64 op, .int .i64 cd, .string key, .int .i64 m.N, .int .i64 m.c, .int .i64 m.s, .int .i64 m.t, .bool m.d, .slice xa xn xc, .slice sa sy.length sc, .slice ia it.length ic] MMT (0, 0)) → V.cell? ⟨w.heap.size, 12, none⟩ = some (.slice sa SN sc) ∧ V.cell? ⟨w.heap.size, 13, none⟩ = some (.slice ia IN ic) := fun V h => by rw [hSN, hIN]; exact ⟨cell_of_row _ _ 12 _ _ _ h, cell_of_row _ _ 13 _ _ _ h⟩
                          have H14 := Lib.hid hH14
                          have HB := Lib.hid hb
                          clear hh hb hSN hIN hMs hMi hH14
                          obtain ⟨c12, c13⟩ := H14.out _ HH.out
                          go_wp2
                          go_loopw [3] (fun vi wr => ∃ i : Nat, i ≤ SN ∧ vi = .int .i64 (i : Nat) ∧ Hid (∀ j x, j < i → sy[j]? = some x → wrongS x = false) ∧ Hid (Below w.heap.size w wr) ∧ Hid (wr.heap[w.heap.size]? = some (.cells #[.int .i64 k, .int .i64 f, .int .i64 t, .int .i64 op, .int .i64 cd, .string key, .int .i64 m.N, .int .i64 m.c, .int .i64 m.s, .int .i64 m.t, .bool m.d, .slice xa xn xc, .slice sa sy.length sc, .slice ia it.length ic] MMT (0, 0)))) (fun vi _ => SN - (intOf vi).toNat)
                          case atStart => exact ⟨0, Nat.zero_le _, rfl, Lib.hid (fun j x hj => absurd hj (Nat.not_lt_zero _)), HB, HH⟩
                          case round =>
                            clear c12 c13 HH HB
                            obtain ⟨i, hi, rfl, HZ, HB, HH⟩ := hrel
                            obtain ⟨c12, c13⟩ := H14.out _ HH.out
                            by_cases hlt2 : i < SN
                            · obtain ⟨q, off, z, e, xa2, n2, xc2, l2, rfl, s0, s1, s2, hpi, hby⟩ := HMS.out.at hlt2
                              have q0 := cell_below s0 HB.out
                              have q1 := cell_below s1 HB.out
                              have q2 := cell_below s2 HB.out
                              have hn2 : l2.length = n2 := hby.length
                              have HPI := Lib.hid hpi
                              have hb1 := below_alloc wr (.cells #[.int .i64 z, .int .i64 e, .slice xa2 n2 xc2] ST3)
                              have r1 := heap_alloc_new wr (.cells #[.int .i64 z, .int .i64 e, .slice xa2 n2 xc2] ST3)
                              obtain ⟨w1, hw1⟩ : ∃ x, x = wr.alloc (.cells #[.int .i64 z, .int .i64 e, .slice xa2 n2 xc2] ST3) := ⟨_, rfl⟩
                              rw [← hw1] at r1 hb1
                              have HB1 := Lib.hid (HB.out.trans (hb1.mono HB.out.size))
                              have HH1 := Lib.hid ((hb1.block _ (Array.getElem?_eq_some_iff.1 HH.out).1).trans HH.out)
                              have HHW1 := Lib.hid hw1
                              have d0 : w1.cell? ⟨wr.heap.size, 0, none⟩ = some (.int .i64 z) := cell_of_row _ _ 0 _ _ _ r1
                              have d1 : w1.cell? ⟨wr.heap.size, 1, none⟩ = some (.int .i64 e) := cell_of_row _ _ 1 _ _ _ r1
                              have d2 : w1.cell? ⟨wr.heap.size, 2, none⟩ = some (.slice xa2 n2 xc2) := cell_of_row _ _ 2 _ _ _ r1
                              have i0 : (0 : Int) ≤ (i : Int) := by omega
                              clear hpi hby s0 s1 s2 hb1 hw1 r1
                              go_upto_region 9 with fail
                              rw [← HHW1.out]
                              clear q0 q1 q2 c12 c13
                              go_cut [117] (fun v wx => v = .bool (wrongS (z, e, l2)) ∧ w1 = wx)
                              case first =>
                                refine WL.start ?_
                                refine WL.take (v := ?tv0c239) (by rfl) ?ty0c239 ?tr0c239
                                case ty0c239 => (go_simp; first | done | with_reducible rfl)
                                simp only [Act.put, List.setIfInBounds_toArray, List.set_cons_zero, List.set_cons_succ]
                                refine WL.take (v := ?tv1c240) (by rfl) ?ty1c240 ?tr1c240
                                case ty1c240 => (go_simp; first | done | with_reducible rfl)
                                simp only [Act.put, List.setIfInBounds_toArray, List.set_cons_zero, List.set_cons_succ]
                                by_cases g2 : z < 0
                                · refine WL.take (v := ?tv2c241) (by rfl) ?ty2c241 ?tr2c241
                                  case ty2c241 => (go_simp; first | done | with_reducible rfl)
                                  simp only [Act.put, List.setIfInBounds_toArray, List.set_cons_zero, List.set_cons_succ]
                                  refine WL.take (v := ?tv3c242) (by rfl) ?ty3c242 ?tr3c242
                                  case ty3c242 => (go_simp; first | done | with_reducible rfl)
                                  simp only [Act.put, List.setIfInBounds_toArray, List.set_cons_zero, List.set_cons_succ]
                                  refine WL.skip (by rfl) ?_
                                  simp only [Act.put, List.setIfInBounds_toArray, List.set_cons_zero, List.set_cons_succ]
                                  refine WL.skip (by rfl) ?_
                                  simp only [Act.put, List.setIfInBounds_toArray, List.set_cons_zero, List.set_cons_succ]
                                  refine WL.skip (by rfl) ?_
                                  simp only [Act.put, List.setIfInBounds_toArray, List.set_cons_zero, List.set_cons_succ]
                                  refine WL.take (v := ?tv7c243) (by rfl) ?ty7c243 ?tr7c243
                                  case ty7c243 => (go_simp; first | done | with_reducible rfl)
                                  simp only [Act.put, List.setIfInBounds_toArray, List.set_cons_zero, List.set_cons_succ]
                                  refine WL.take (v := ?tv8c244) (by rfl) ?ty8c244 ?tr8c244
                                  case ty8c244 => (go_simp; first | done | with_reducible rfl)
                                  simp only [Act.put, List.setIfInBounds_toArray, List.set_cons_zero, List.set_cons_succ]
                                  refine WL.skip (by rfl) ?_
                                  simp only [Act.put, List.setIfInBounds_toArray, List.set_cons_zero, List.set_cons_succ]
                                  refine WL.skip (by rfl) ?_
                                  simp only [Act.put, List.setIfInBounds_toArray, List.set_cons_zero, List.set_cons_succ]
                                  refine WL.skip (by rfl) ?_
                                  simp only [Act.put, List.setIfInBounds_toArray, List.set_cons_zero, List.set_cons_succ]
                                  refine WL.take (v := ?tv12c245) (by rfl) ?ty12c245 ?tr12c245
                                  case ty12c245 => (go_simp; first | done | with_reducible rfl)
                                  simp only [Act.put, List.setIfInBounds_toArray, List.set_cons_zero, List.set_cons_succ]
                                  refine WL.take (v := ?tv13c246) (by rfl) ?ty13c246 ?tr13c246
                                  case ty13c246 => (go_simp; first | done | with_reducible rfl)
                                  simp only [Act.put, List.setIfInBounds_toArray, List.set_cons_zero, List.set_cons_succ]
                                  refine WL.skip (by rfl) ?_
                                  simp only [Act.put, List.setIfInBounds_toArray, List.set_cons_zero, List.set_cons_succ]
                                  refine WL.skip (by rfl) ?_
                                  simp only [Act.put, List.setIfInBounds_toArray, List.set_cons_zero, List.set_cons_succ]
                                  refine WL.skip (by rfl) ?_
                                  simp only [Act.put, List.setIfInBounds_toArray, List.set_cons_zero, List.set_cons_succ]
                                  refine WL.take (v := ?tv17c247) (by rfl) ?ty17c247 ?tr17c247
                                  case ty17c247 => (go_simp; first | done | with_reducible rfl)
                                  simp only [Act.put, List.setIfInBounds_toArray, List.set_cons_zero, List.set_cons_succ]
                                  refine WL.take (v := ?tv18c248) (by rfl) ?ty18c248 ?tr18c248
                                  case ty18c248 => (go_simp; first | done | with_reducible rfl)
                                  simp only [Act.put, List.setIfInBounds_toArray, List.set_cons_zero, List.set_cons_succ]
                                  refine WL.skip (by rfl) ?_
                                  simp only [Act.put, List.setIfInBounds_toArray, List.set_cons_zero, List.set_cons_succ]
                                  refine WL.skip (by rfl) ?_
                                  simp only [Act.put, List.setIfInBounds_toArray, List.set_cons_zero, List.set_cons_succ]
                                  refine WL.skip (by rfl) ?_
                                  simp only [Act.put, List.setIfInBounds_toArray, List.set_cons_zero, List.set_cons_succ]
                                  refine WL.skip (by rfl) ?_
                                  simp only [Act.put, List.setIfInBounds_toArray, List.set_cons_zero, List.set_cons_succ]
                                  refine WL.take (v := ?tv23c249) (by rfl) ?ty23c249 ?tr23c249
                                  case ty23c249 => (go_simp; first | done | with_reducible rfl)
                                  simp only [Act.put, List.setIfInBounds_toArray, List.set_cons_zero, List.set_cons_succ]
                                  refine WL.done ?_
                                  have hv : Hid (wrongS (z, e, l2) = true) := Lib.hid (by simp only [wrongS, wiB, Bool.or_eq_true, Bool.not_eq_true', decide_eq_false_iff_not, decide_eq_true_eq]; omega)
                                  go_wp2
                                  go_meet
                                  exact ⟨by rw [hv.out], rfl⟩
                                · refine WL.take (v := ?tv2c250) (by rfl) ?ty2c250 ?tr2c250
                                  case ty2c250 => (go_simp; first | done | with_reducible rfl)
                                  simp only [Act.put, List.setIfInBounds_toArray, List.set_cons_zero, List.set_cons_succ]
                                  refine WL.take (v := ?tv3c251) (by rfl) ?ty3c251 ?tr3c251
                                  case ty3c251 => (go_simp; first | done | with_reducible rfl)
                                  simp only [Act.put, List.setIfInBounds_toArray, List.set_cons_zero, List.set_cons_succ]
                                  refine WL.take (v := ?tv4c252) (by rfl) ?ty4c252 ?tr4c252
                                  case ty4c252 => (go_simp; first | done | with_reducible rfl)
                                  simp only [Act.put, List.setIfInBounds_toArray, List.set_cons_zero, List.set_cons_succ]
                                  refine WL.take (v := ?tv5c253) (by rfl) ?ty5c253 ?tr5c253
                                  case ty5c253 => (go_simp; first | done | with_reducible rfl)
                                  simp only [Act.put, List.setIfInBounds_toArray, List.set_cons_zero, List.set_cons_succ]
                                  by_cases g6 : 1023 < z
                                  · refine WL.take (v := ?tv6c254) (by rfl) ?ty6c254 ?tr6c254
                                    case ty6c254 => (go_simp; first | done | with_reducible rfl)
                                    simp only [Act.put, List.setIfInBounds_toArray, List.set_cons_zero, List.set_cons_succ]
                                    refine WL.take (v := ?tv7c255) (by rfl) ?ty7c255 ?tr7c255
                                    case ty7c255 => (go_simp; first | done | with_reducible rfl)
                                    simp only [Act.put, List.setIfInBounds_toArray, List.set_cons_zero, List.set_cons_succ]
                                    refine WL.take (v := ?tv8c256) (by rfl) ?ty8c256 ?tr8c256
                                    case ty8c256 => (go_simp; first | done | with_reducible rfl)
                                    simp only [Act.put, List.setIfInBounds_toArray, List.set_cons_zero, List.set_cons_succ]
                                    refine WL.skip (by rfl) ?_
                                    simp only [Act.put, List.setIfInBounds_toArray, List.set_cons_zero, List.set_cons_succ]
                                    refine WL.skip (by rfl) ?_
                                    simp only [Act.put, List.setIfInBounds_toArray, List.set_cons_zero, List.set_cons_succ]
                                    refine WL.skip (by rfl) ?_
                                    simp only [Act.put, List.setIfInBounds_toArray, List.set_cons_zero, List.set_cons_succ]
                                    refine WL.take (v := ?tv12c257) (by rfl) ?ty12c257 ?tr12c257
                                    case ty12c257 => (go_simp; first | done | with_reducible rfl)
                                    simp only [Act.put, List.setIfInBounds_toArray, List.set_cons_zero, List.set_cons_succ]
                                    refine WL.take (v := ?tv13c258) (by rfl) ?ty13c258 ?tr13c258
                                    case ty13c258 => (go_simp; first | done | with_reducible rfl)
                                    simp only [Act.put, List.setIfInBounds_toArray, List.set_cons_zero, List.set_cons_succ]
                                    refine WL.skip (by rfl) ?_
                                    simp only [Act.put, List.setIfInBounds_toArray, List.set_cons_zero, List.set_cons_succ]
                                    refine WL.skip (by rfl) ?_
                                    simp only [Act.put, List.setIfInBounds_toArray, List.set_cons_zero, List.set_cons_succ]
                                    refine WL.skip (by rfl) ?_
                                    simp only [Act.put, List.setIfInBounds_toArray, List.set_cons_zero, List.set_cons_succ]
                                    refine WL.take (v := ?tv17c259) (by rfl) ?ty17c259 ?tr17c259
                                    case ty17c259 => (go_simp; first | done | with_reducible rfl)
                                    simp only [Act.put, List.setIfInBounds_toArray, List.set_cons_zero, List.set_cons_succ]
                                    refine WL.take (v := ?tv18c260) (by rfl) ?ty18c260 ?tr18c260
                                    case ty18c260 => (go_simp; first | done | with_reducible rfl)
                                    simp only [Act.put, List.setIfInBounds_toArray, List.set_cons_zero, List.set_cons_succ]
                                    refine WL.skip (by rfl) ?_
                                    simp only [Act.put, List.setIfInBounds_toArray, List.set_cons_zero, List.set_cons_succ]
                                    refine WL.skip (by rfl) ?_
                                    simp only [Act.put, List.setIfInBounds_toArray, List.set_cons_zero, List.set_cons_succ]
                                    refine WL.skip (by rfl) ?_
                                    simp only [Act.put, List.setIfInBounds_toArray, List.set_cons_zero, List.set_cons_succ]
                                    refine WL.skip (by rfl) ?_
                                    simp only [Act.put, List.setIfInBounds_toArray, List.set_cons_zero, List.set_cons_succ]
                                    refine WL.take (v := ?tv23c261) (by rfl) ?ty23c261 ?tr23c261
                                    case ty23c261 => (go_simp; first | done | with_reducible rfl)
                                    simp only [Act.put, List.setIfInBounds_toArray, List.set_cons_zero, List.set_cons_succ]
                                    refine WL.done ?_
                                    have hv : Hid (wrongS (z, e, l2) = true) := Lib.hid (by simp only [wrongS, wiB, Bool.or_eq_true, Bool.not_eq_true', decide_eq_false_iff_not, decide_eq_true_eq]; omega)
                                    go_wp2
                                    go_meet
                                    exact ⟨by rw [hv.out], rfl⟩
                                  · refine WL.take (v := ?tv6c262) (by rfl) ?ty6c262 ?tr6c262
                                    case ty6c262 => (go_simp; first | done | with_reducible rfl)
                                    simp only [Act.put, List.setIfInBounds_toArray, List.set_cons_zero, List.set_cons_succ]
                                    refine WL.take (v := ?tv7c263) (by rfl) ?ty7c263 ?tr7c263
                                    case ty7c263 => (go_simp; first | done | with_reducible rfl)
                                    simp only [Act.put, List.setIfInBounds_toArray, List.set_cons_zero, List.set_cons_succ]
                                    refine WL.take (v := ?tv8c264) (by rfl) ?ty8c264 ?tr8c264
                                    case ty8c264 => (go_simp; first | done | with_reducible rfl)
                                    simp only [Act.put, List.setIfInBounds_toArray, List.set_cons_zero, List.set_cons_succ]
                                    refine WL.take (v := ?tv9c265) (by rfl) ?ty9c265 ?tr9c265
                                    case ty9c265 => (go_simp; first | done | with_reducible rfl)
                                    simp only [Act.put, List.setIfInBounds_toArray, List.set_cons_zero, List.set_cons_succ]
                                    refine WL.take (v := ?tv10c266) (by rfl) ?ty10c266 ?tr10c266
                                    case ty10c266 => (go_simp; first | done | with_reducible rfl)
                                    simp only [Act.put, List.setIfInBounds_toArray, List.set_cons_zero, List.set_cons_succ]
                                    by_cases g11 : e < 0
                                    · refine WL.take (v := ?tv11c267) (by rfl) ?ty11c267 ?tr11c267
                                      case ty11c267 => (go_simp; first | done | with_reducible rfl)
                                      simp only [Act.put, List.setIfInBounds_toArray, List.set_cons_zero, List.set_cons_succ]
                                      refine WL.take (v := ?tv12c268) (by rfl) ?ty12c268 ?tr12c268
                                      case ty12c268 => (go_simp; first | done | with_reducible rfl)
                                      simp only [Act.put, List.setIfInBounds_toArray, List.set_cons_zero, List.set_cons_succ]
                                      refine WL.take (v := ?tv13c269) (by rfl) ?ty13c269 ?tr13c269
                                      case ty13c269 => (go_simp; first | done | with_reducible rfl)
                                      simp only [Act.put, List.setIfInBounds_toArray, List.set_cons_zero, List.set_cons_succ]
                                      refine WL.skip (by rfl) ?_
                                      simp only [Act.put, List.setIfInBounds_toArray, List.set_cons_zero, List.set_cons_succ]
                                      refine WL.skip (by rfl) ?_
                                      simp only [Act.put, List.setIfInBounds_toArray, List.set_cons_zero, List.set_cons_succ]
                                      refine WL.skip (by rfl) ?_
                                      simp only [Act.put, List.setIfInBounds_toArray, List.set_cons_zero, List.set_cons_succ]
                                      refine WL.take (v := ?tv17c270) (by rfl) ?ty17c270 ?tr17c270
                                      case ty17c270 => (go_simp; first | done | with_reducible rfl)
                                      simp only [Act.put, List.setIfInBounds_toArray, List.set_cons_zero, List.set_cons_succ]
                                      refine WL.take (v := ?tv18c271) (by rfl) ?ty18c271 ?tr18c271
                                      case ty18c271 => (go_simp; first | done | with_reducible rfl)
                                      simp only [Act.put, List.setIfInBounds_toArray, List.set_cons_zero, List.set_cons_succ]
                                      refine WL.skip (by rfl) ?_
                                      simp only [Act.put, List.setIfInBounds_toArray, List.set_cons_zero, List.set_cons_succ]
                                      refine WL.skip (by rfl) ?_
                                      simp only [Act.put, List.setIfInBounds_toArray, List.set_cons_zero, List.set_cons_succ]
                                      refine WL.skip (by rfl) ?_
                                      simp only [Act.put, List.setIfInBounds_toArray, List.set_cons_zero, List.set_cons_succ]
                                      refine WL.skip (by rfl) ?_
                                      simp only [Act.put, List.setIfInBounds_toArray, List.set_cons_zero, List.set_cons_succ]
                                      refine WL.take (v := ?tv23c272) (by rfl) ?ty23c272 ?tr23c272
                                      case ty23c272 => (go_simp; first | done | with_reducible rfl)
                                      simp only [Act.put, List.setIfInBounds_toArray, List.set_cons_zero, List.set_cons_succ]
                                      refine WL.done ?_
                                      have hv : Hid (wrongS (z, e, l2) = true) := Lib.hid (by simp only [wrongS, wiB, Bool.or_eq_true, Bool.not_eq_true', decide_eq_false_iff_not, decide_eq_true_eq]; omega)
                                      go_wp2
                                      go_meet
                                      exact ⟨by rw [hv.out], rfl⟩
                                    · refine WL.take (v := ?tv11c273) (by rfl) ?ty11c273 ?tr11c273
                                      case ty11c273 => (go_simp; first | done | with_reducible rfl)
                                      simp only [Act.put, List.setIfInBounds_toArray, List.set_cons_zero, List.set_cons_succ]
                                      refine WL.take (v := ?tv12c274) (by rfl) ?ty12c274 ?tr12c274
                                      case ty12c274 => (go_simp; first | done | with_reducible rfl)
                                      simp only [Act.put, List.setIfInBounds_toArray, List.set_cons_zero, List.set_cons_succ]
                                      refine WL.take (v := ?tv13c275) (by rfl) ?ty13c275 ?tr13c275
                                      case ty13c275 => (go_simp; first | done | with_reducible rfl)
                                      simp only [Act.put, List.setIfInBounds_toArray, List.set_cons_zero, List.set_cons_succ]
                                      refine WL.take (v := ?tv14c276) (by rfl) ?ty14c276 ?tr14c276
                                      case ty14c276 => (go_simp; first | done | with_reducible rfl)
                                      simp only [Act.put, List.setIfInBounds_toArray, List.set_cons_zero, List.set_cons_succ]
                                      refine WL.take (v := ?tv15c277) (by rfl) ?ty15c277 ?tr15c277
                                      case ty15c277 => (go_simp; first | done | with_reducible rfl)
                                      simp only [Act.put, List.setIfInBounds_toArray, List.set_cons_zero, List.set_cons_succ]
                                      by_cases g16 : 16777216 ≤ e
                                      · refine WL.take (v := ?tv16c278) (by rfl) ?ty16c278 ?tr16c278
                                        case ty16c278 => (go_simp; first | done | with_reducible rfl)
                                        simp only [Act.put, List.setIfInBounds_toArray, List.set_cons_zero, List.set_cons_succ]
                                        refine WL.take (v := ?tv17c279) (by rfl) ?ty17c279 ?tr17c279
                                        case ty17c279 => (go_simp; first | done | with_reducible rfl)
                                        simp only [Act.put, List.setIfInBounds_toArray, List.set_cons_zero, List.set_cons_succ]
                                        refine WL.take (v := ?tv18c280) (by rfl) ?ty18c280 ?tr18c280
                                        case ty18c280 => (go_simp; first | done | with_reducible rfl)
                                        simp only [Act.put, List.setIfInBounds_toArray, List.set_cons_zero, List.set_cons_succ]
                                        refine WL.skip (by rfl) ?_
                                        simp only [Act.put, List.setIfInBounds_toArray, List.set_cons_zero, List.set_cons_succ]
                                        refine WL.skip (by rfl) ?_
                                        simp only [Act.put, List.setIfInBounds_toArray, List.set_cons_zero, List.set_cons_succ]
                                        refine WL.skip (by rfl) ?_
                                        simp only [Act.put, List.setIfInBounds_toArray, List.set_cons_zero, List.set_cons_succ]
                                        refine WL.skip (by rfl) ?_
                                        simp only [Act.put, List.setIfInBounds_toArray, List.set_cons_zero, List.set_cons_succ]
                                        refine WL.take (v := ?tv23c281) (by rfl) ?ty23c281 ?tr23c281
                                        case ty23c281 => (go_simp; first | done | with_reducible rfl)
                                        simp only [Act.put, List.setIfInBounds_toArray, List.set_cons_zero, List.set_cons_succ]
                                        refine WL.done ?_
                                        have hv : Hid (wrongS (z, e, l2) = true) := Lib.hid (by simp only [wrongS, wiB, Bool.or_eq_true, Bool.not_eq_true', decide_eq_false_iff_not, decide_eq_true_eq]; omega)
                                        go_wp2
                                        go_meet
                                        exact ⟨by rw [hv.out], rfl⟩
                                      · refine WL.take (v := ?tv16c282) (by rfl) ?ty16c282 ?tr16c282
                                        case ty16c282 => (go_simp; first | done | with_reducible rfl)
                                        simp only [Act.put, List.setIfInBounds_toArray, List.set_cons_zero, List.set_cons_succ]
                                        refine WL.take (v := ?tv17c283) (by rfl) ?ty17c283 ?tr17c283
                                        case ty17c283 => (go_simp; first | done | with_reducible rfl)
                                        simp only [Act.put, List.setIfInBounds_toArray, List.set_cons_zero, List.set_cons_succ]
                                        refine WL.take (v := ?tv18c284) (by rfl) ?ty18c284 ?tr18c284
                                        case ty18c284 => (go_simp; first | done | with_reducible rfl)
                                        simp only [Act.put, List.setIfInBounds_toArray, List.set_cons_zero, List.set_cons_succ]
                                        refine WL.take (v := ?tv19c285) (by rfl) ?ty19c285 ?tr19c285
                                        case ty19c285 => (go_simp; first | done | with_reducible rfl)
                                        simp only [Act.put, List.setIfInBounds_toArray, List.set_cons_zero, List.set_cons_succ]
                                        refine WL.take (v := ?tv20c286) (by rfl) ?ty20c286 ?tr20c286
                                        case ty20c286 => (go_simp; first | done | with_reducible rfl)
                                        simp only [Act.put, List.setIfInBounds_toArray, List.set_cons_zero, List.set_cons_succ]
                                        refine WL.take (v := ?tv21c287) (by rfl) ?ty21c287 ?tr21c287
                                        case ty21c287 => (go_simp; first | done | with_reducible rfl)
                                        simp only [Act.put, List.setIfInBounds_toArray, List.set_cons_zero, List.set_cons_succ]
                                        by_cases g22 : 64 < (n2 : Int)
                                        · refine WL.take (v := ?tv22c288) (by rfl) ?ty22c288 ?tr22c288
                                          case ty22c288 => (go_simp; first | done | with_reducible rfl)
                                          simp only [Act.put, List.setIfInBounds_toArray, List.set_cons_zero, List.set_cons_succ]
                                          refine WL.take (v := ?tv23c289) (by rfl) ?ty23c289 ?tr23c289
                                          case ty23c289 => (go_simp; first | done | with_reducible rfl)
                                          simp only [Act.put, List.setIfInBounds_toArray, List.set_cons_zero, List.set_cons_succ]
                                          refine WL.done ?_
                                          have hv : Hid (wrongS (z, e, l2) = true) := Lib.hid (by simp only [wrongS, wiB, Bool.or_eq_true, Bool.not_eq_true', decide_eq_false_iff_not, decide_eq_true_eq]; omega)
                                          go_wp2
                                          go_meet
                                          exact ⟨by rw [hv.out], rfl⟩
                                        · refine WL.take (v := ?tv22c290) (by rfl) ?ty22c290 ?tr22c290
                                          case ty22c290 => (go_simp; first | done | with_reducible rfl)
                                          simp only [Act.put, List.setIfInBounds_toArray, List.set_cons_zero, List.set_cons_succ]
                                          refine WL.take (v := ?tv23c291) (by rfl) ?ty23c291 ?tr23c291
                                          case ty23c291 => (go_simp; first | done | with_reducible rfl)
                                          simp only [Act.put, List.setIfInBounds_toArray, List.set_cons_zero, List.set_cons_succ]
                                          refine WL.done ?_
                                          have hv : Hid (wrongS (z, e, l2) = false) := Lib.hid (by simp only [wrongS, wiB, Bool.or_eq_false_iff, Bool.not_eq_false', decide_eq_false_iff_not, decide_eq_true_eq]; omega)
                                          go_wp2
                                          go_meet
                                          exact ⟨by rw [hv.out], rfl⟩
                              case rest =>
                                clear d0 d1 d2
                                obtain ⟨rfl, rfl⟩ := hcut
                                cases hW : wrongS (z, e, l2) with
                                | true =>
                                  have hno := Lib.hid (HNO.out (rightM_no (M := ⟨k, f, t, op, cd, key, m, sy, it⟩) 9 (by decide) (show (!sy.any wrongS) = false by
                                    cases hbd : sy.any wrongS with
                                    | true => rfl
                                    | false => rw [any_false.1 hbd i _ HPI.out] at hW; cases hW)))
                                  go_wp2
                                  go_ret
                                  exact ⟨by rw [hno.out]; rfl, HB1.out⟩
                                | false =>
                                  have HNX : Hid (∀ j x, j < i + 1 → sy[j]? = some x → wrongS x = false) := Lib.hid (fun j x hj hx => by
                                    by_cases e1 : j = i
                                    · rw [e1, HPI.out] at hx
                                      injection hx with hx
                                      rw [← hx]
                                      exact hW
                                    · exact HZ.out j x (by omega) hx)
                                  clear hW
                                  go_wp2
                                  go_roundw
                                  case rel => exact ⟨i + 1, by omega, by go_num, HNX, HB1, HH1⟩
                                  case measure => simp [intOf] <;> omega
                            · obtain rfl : i = SN := by omega
                              have HC9 : Hid (cnd ⟨k, f, t, op, cd, key, m, sy, it⟩ 9 = true) := Lib.hid (show (!sy.any wrongS) = true by
                                rw [any_false.2 fun i x hx => HZ.out i x (by have := (List.getElem?_eq_some_iff.1 hx).1; rw [← HSN.out] at this; exact this) hx]
                                rfl)
                              clear HZ
                              go_wp2
                              go_loopw [5] (fun vi wr => ∃ i : Nat, i ≤ IN ∧ vi = .int .i64 (i : Nat) ∧ Hid (∀ j x, j < i → it[j]? = some x → wrongI x = false) ∧ Hid (Below w.heap.size w wr) ∧ Hid (wr.heap[w.heap.size]? = some (.cells #[.int .i64 k, .int .i64 f, .int .i64 t, .int .i64 op, .int .i64 cd, .string key, .int .i64 m.N, .int .i64 m.c, .int .i64 m.s, .int .i64 m.t, .bool m.d, .slice xa xn xc, .slice sa sy.length sc, .slice ia it.length ic] MMT (0, 0)))) (fun vi _ => IN - (intOf vi).toNat)
                              case atStart => exact ⟨0, Nat.zero_le _, rfl, Lib.hid (fun j x hj => absurd hj (Nat.not_lt_zero _)), HB, HH⟩
                              case round =>
                                clear c12 c13 HH HB
                                rename World => wq
                                obtain ⟨i, hi, rfl, HZ, HB, HH⟩ := hrel
                                obtain ⟨c12, c13⟩ := H14.out _ HH.out
                                by_cases hlt3 : i < IN
                                · obtain ⟨q, off, y, ⟨ya, yn, yc⟩, rfl, hpi, hat⟩ := HMI.out.at hlt3
                                  obtain ⟨ykey, ym⟩ := y
                                  have hat' := hat.below HB.out
                                  obtain ⟨p0, p1, p2, p3, p4, p5, p6, hby⟩ := hat'
                                  simp only at p0 p1 p2 p3 p4 p5 p6 hby
                                  have HYL : Hid (ym.l.length = yn) := Lib.hid hby.length
                                  have HPI := Lib.hid hpi
                                  have KY := fun w => refKey_any ykey w
                                  have KM := fun w => refRight_any ym.N ym.c ym.s ym.t ym.d ya yn yc w
                                  have i0 : (0 : Int) ≤ (i : Int) := by omega
                                  have hb := HB.out
                                  have hh := HH.out
                                  clear hpi hat hby HB HH
                                  go_upto_region 14 with fail
                                  go_cut [142] (fun v wx => v = .bool (wrongI ⟨ykey, ym⟩) ∧ wx.heap[w.heap.size]? = some (.cells #[.int .i64 k, .int .i64 f, .int .i64 t, .int .i64 op, .int .i64 cd, .string key, .int .i64 m.N, .int .i64 m.c, .int .i64 m.s, .int .i64 m.t, .bool m.d, .slice xa xn xc, .slice sa sy.length sc, .slice (some ⟨q, off, none⟩) it.length ic] MMT (0, 0)) ∧ Below w.heap.size w wx)
                                  case first =>
                                    refine WL.start ?_
                                    refine WL.take (v := ?tv0c292) (by rfl) ?ty0c292 ?tr0c292
                                    case ty0c292 => (go_simp; first | done | with_reducible rfl)
                                    simp only [Act.put, List.setIfInBounds_toArray, List.set_cons_zero, List.set_cons_succ]
                                    refine WL.take (v := ?tv1c293) (by rfl) ?ty1c293 ?tr1c293
                                    case ty1c293 => (go_simp; first | done | with_reducible rfl)
                                    simp only [Act.put, List.setIfInBounds_toArray, List.set_cons_zero, List.set_cons_succ]
                                    refine WL.take (v := ?tv2c294) (by rfl) ?ty2c294 ?tr2c294
                                    case ty2c294 => (go_simp; first | done | with_reducible rfl)
                                    simp only [Act.put, List.setIfInBounds_toArray, List.set_cons_zero, List.set_cons_succ]
                                    refine WL.take (v := ?tv3c295) (by rfl) ?ty3c295 ?tr3c295
                                    case ty3c295 => (go_simp; first | done | with_reducible rfl)
                                    simp only [Act.put, List.setIfInBounds_toArray, List.set_cons_zero, List.set_cons_succ]
                                    refine WL.take (v := ?tv4c296) (by rfl) ?ty4c296 ?tr4c296
                                    case ty4c296 => (go_simp; first | done | with_reducible rfl)
                                    simp only [Act.put, List.setIfInBounds_toArray, List.set_cons_zero, List.set_cons_succ]
                                    refine WL.take (v := ?tv5c297) (by rfl) ?ty5c297 ?tr5c297
                                    case ty5c297 => (go_simp; first | done | with_reducible rfl)
                                    simp only [Act.put, List.setIfInBounds_toArray, List.set_cons_zero, List.set_cons_succ]
                                    cases y6 : keyB ykey.size
                                    · refine WL.call (by rfl) (fun K hK => ?_)
                                      go_simp
                                      rw [y6] at KY
                                      (with_reducible refine (KY _).mono ?_)
                                      rintro e' _ ⟨rfl, rfl⟩
                                      refine hK.out _ _ ?_
                                      clear hK K
                                      try simp only [Act.put, List.setIfInBounds_toArray, List.set_cons_zero, List.set_cons_succ]
                                      refine WL.take (v := ?tv7c298) (by rfl) ?ty7c298 ?tr7c298
                                      case ty7c298 => (go_simp; first | done | with_reducible rfl)
                                      simp only [Act.put, List.setIfInBounds_toArray, List.set_cons_zero, List.set_cons_succ]
                                      refine WL.take (v := ?tv8c299) (by rfl) ?ty8c299 ?tr8c299
                                      case ty8c299 => (go_simp; first | done | with_reducible rfl)
                                      simp only [Act.put, List.setIfInBounds_toArray, List.set_cons_zero, List.set_cons_succ]
                                      refine WL.skip (by rfl) ?_
                                      simp only [Act.put, List.setIfInBounds_toArray, List.set_cons_zero, List.set_cons_succ]
                                      refine WL.skip (by rfl) ?_
                                      simp only [Act.put, List.setIfInBounds_toArray, List.set_cons_zero, List.set_cons_succ]
                                      refine WL.skip (by rfl) ?_
                                      simp only [Act.put, List.setIfInBounds_toArray, List.set_cons_zero, List.set_cons_succ]
                                      refine WL.skip (by rfl) ?_
                                      simp only [Act.put, List.setIfInBounds_toArray, List.set_cons_zero, List.set_cons_succ]
                                      refine WL.skip (by rfl) ?_
                                      simp only [Act.put, List.setIfInBounds_toArray, List.set_cons_zero, List.set_cons_succ]
                                      refine WL.skip (by rfl) ?_
                                      simp only [Act.put, List.setIfInBounds_toArray, List.set_cons_zero, List.set_cons_succ]
                                      refine WL.skip (by rfl) ?_
                                      simp only [Act.put, List.setIfInBounds_toArray, List.set_cons_zero, List.set_cons_succ]
                                      refine WL.skip (by rfl) ?_
                                      simp only [Act.put, List.setIfInBounds_toArray, List.set_cons_zero, List.set_cons_succ]
                                      refine WL.take (v := ?tv17c300) (by rfl) ?ty17c300 ?tr17c300
                                      case ty17c300 => (go_simp; first | done | with_reducible rfl)
                                      simp only [Act.put, List.setIfInBounds_toArray, List.set_cons_zero, List.set_cons_succ]
                                      refine WL.done ?_
                                      have hv : Hid (wrongI ⟨ykey, ym⟩ = true) := Lib.hid (by simp only [wrongI, y6]; rfl)
                                      go_wp2
                                      go_meet
                                      exact ⟨by rw [hv.out], hh, hb⟩
                                    · refine WL.call (by rfl) (fun K hK => ?_)
                                      go_simp
                                      rw [y6] at KY
                                      (with_reducible refine (KY _).mono ?_)
                                      rintro e' _ ⟨rfl, rfl⟩
                                      refine hK.out _ _ ?_
                                      clear hK K
                                      try simp only [Act.put, List.setIfInBounds_toArray, List.set_cons_zero, List.set_cons_succ]
                                      refine WL.take (v := ?tv7c301) (by rfl) ?ty7c301 ?tr7c301
                                      case ty7c301 => (go_simp; first | done | with_reducible rfl)
                                      simp only [Act.put, List.setIfInBounds_toArray, List.set_cons_zero, List.set_cons_succ]
                                      refine WL.take (v := ?tv8c302) (by rfl) ?ty8c302 ?tr8c302
                                      case ty8c302 => (go_simp; first | done | with_reducible rfl)
                                      simp only [Act.put, List.setIfInBounds_toArray, List.set_cons_zero, List.set_cons_succ]
                                      refine WL.take (v := ?tv9c303) (by rfl) ?ty9c303 ?tr9c303
                                      case ty9c303 => (go_simp; first | done | with_reducible rfl)
                                      simp only [Act.put, List.setIfInBounds_toArray, List.set_cons_zero, List.set_cons_succ]
                                      refine WL.take (v := ?tv10c304) (by rfl) ?ty10c304 ?tr10c304
                                      case ty10c304 => (go_simp; first | done | with_reducible rfl)
                                      simp only [Act.put, List.setIfInBounds_toArray, List.set_cons_zero, List.set_cons_succ]
                                      refine WL.take (v := ?tv11c305) (by rfl) ?ty11c305 ?tr11c305
                                      case ty11c305 => (go_simp; first | done | with_reducible rfl)
                                      simp only [Act.put, List.setIfInBounds_toArray, List.set_cons_zero, List.set_cons_succ]
                                      refine WL.take (v := ?tv12c306) (by rfl) ?ty12c306 ?tr12c306
                                      case ty12c306 => (go_simp; first | done | with_reducible rfl)
                                      simp only [Act.put, List.setIfInBounds_toArray, List.set_cons_zero, List.set_cons_succ]
                                      refine WL.take (v := ?tv13c307) (by rfl) ?ty13c307 ?tr13c307
                                      case ty13c307 => (go_simp; first | done | with_reducible rfl)
                                      simp only [Act.put, List.setIfInBounds_toArray, List.set_cons_zero, List.set_cons_succ]
                                      refine WL.take (v := ?tv14c308) (by rfl) ?ty14c308 ?tr14c308
                                      case ty14c308 => (go_simp; first | done | with_reducible rfl)
                                      simp only [Act.put, List.setIfInBounds_toArray, List.set_cons_zero, List.set_cons_succ]
                                      cases y15 : metaB ym.N ym.c ym.s ym.t ym.d yn
                                      · refine WL.call (by rfl) (fun K hK => ?_)
                                        go_simp
                                        rw [y15] at KM
                                        (with_reducible refine (KM _).mono ?_)
                                        rintro e' w7 ⟨rfl, b2⟩
                                        replace hh := (b2.block _ (Array.getElem?_eq_some_iff.1 hh).1).trans hh
                                        replace hb := hb.trans (b2.mono hb.size)
                                        clear b2
                                        refine hK.out _ _ ?_
                                        clear hK K
                                        try simp only [Act.put, List.setIfInBounds_toArray, List.set_cons_zero, List.set_cons_succ]
                                        refine WL.take (v := ?tv16c309) (by rfl) ?ty16c309 ?tr16c309
                                        case ty16c309 => (go_simp; first | done | with_reducible rfl)
                                        simp only [Act.put, List.setIfInBounds_toArray, List.set_cons_zero, List.set_cons_succ]
                                        refine WL.take (v := ?tv17c310) (by rfl) ?ty17c310 ?tr17c310
                                        case ty17c310 => (go_simp; first | done | with_reducible rfl)
                                        simp only [Act.put, List.setIfInBounds_toArray, List.set_cons_zero, List.set_cons_succ]
                                        refine WL.done ?_
                                        have hv : Hid (wrongI ⟨ykey, ym⟩ = true) := Lib.hid (by simp only [wrongI, y6, metaOk, HYL.out, y15]; rfl)
                                        go_wp2
                                        go_meet
                                        exact ⟨by rw [hv.out], hh, hb⟩
                                      · refine WL.call (by rfl) (fun K hK => ?_)
                                        go_simp
                                        rw [y15] at KM
                                        (with_reducible refine (KM _).mono ?_)
                                        rintro e' w7 ⟨rfl, b2⟩
                                        replace hh := (b2.block _ (Array.getElem?_eq_some_iff.1 hh).1).trans hh
                                        replace hb := hb.trans (b2.mono hb.size)
                                        clear b2
                                        refine hK.out _ _ ?_
                                        clear hK K
                                        try simp only [Act.put, List.setIfInBounds_toArray, List.set_cons_zero, List.set_cons_succ]
                                        refine WL.take (v := ?tv16c311) (by rfl) ?ty16c311 ?tr16c311
                                        case ty16c311 => (go_simp; first | done | with_reducible rfl)
                                        simp only [Act.put, List.setIfInBounds_toArray, List.set_cons_zero, List.set_cons_succ]
                                        refine WL.take (v := ?tv17c312) (by rfl) ?ty17c312 ?tr17c312
                                        case ty17c312 => (go_simp; first | done | with_reducible rfl)
                                        simp only [Act.put, List.setIfInBounds_toArray, List.set_cons_zero, List.set_cons_succ]
                                        refine WL.done ?_
                                        have hv : Hid (wrongI ⟨ykey, ym⟩ = false) := Lib.hid (by simp only [wrongI, y6, metaOk, HYL.out, y15]; rfl)
                                        go_wp2
                                        go_meet
                                        exact ⟨by rw [hv.out], hh, hb⟩
                                  case rest =>
                                    clear p0 p1 p2 p3 p4 p5 p6 c12 c13 hh hb
                                    rename World => wt
                                    obtain ⟨rfl, hh, hb⟩ := hcut
                                    have HH := Lib.hid hh
                                    have HB := Lib.hid hb
                                    clear hh hb
                                    cases hW : wrongI ⟨ykey, ym⟩ with
                                    | true =>
                                      have hno := Lib.hid (HNO.out (rightM_no (M := ⟨k, f, t, op, cd, key, m, sy, it⟩) 11 (by decide) (show (!it.any wrongI) = false by
                                        cases hbd : it.any wrongI with
                                        | true => rfl
                                        | false => rw [any_false.1 hbd i _ HPI.out] at hW; cases hW)))
                                      go_wp2
                                      go_ret
                                      exact ⟨by rw [hno.out]; rfl, HB.out⟩
                                    | false =>
                                      have HNX : Hid (∀ j x, j < i + 1 → it[j]? = some x → wrongI x = false) := Lib.hid (fun j x hj hx => by
                                        by_cases e1 : j = i
                                        · rw [e1, HPI.out] at hx
                                          injection hx with hx
                                          rw [← hx]
                                          exact hW
                                        · exact HZ.out j x (by omega) hx)
                                      clear hW
                                      go_wp2
                                      go_roundw
                                      case rel => exact ⟨i + 1, by omega, by go_num, HNX, HB, HH⟩
                                      case measure => simp [intOf] <;> omega
                                · obtain rfl : i = IN := by omega
                                  have HC11 : Hid (cnd ⟨k, f, t, op, cd, key, m, sy, it⟩ 11 = true) := Lib.hid (show (!it.any wrongI) = true by
                                    rw [any_false.2 fun i x hx => HZ.out i x (by have := (List.getElem?_eq_some_iff.1 hx).1; rw [← HIN.out] at this; exact this) hx]
                                    rfl)
                                  have hye := rightM_yes (M := ⟨k, f, t, op, cd, key, m, sy, it⟩) (fun i hi => by
                                    have : i = 0 ∨ i = 1 ∨ i = 2 ∨ i = 3 ∨ i = 4 ∨ i = 5 ∨ i = 6 ∨ i = 7 ∨ i = 8 ∨ i = 9 ∨ i = 10 ∨ i = 11 := by omega
                                    rcases this with rfl | rfl | rfl | rfl | rfl | rfl | rfl | rfl | rfl | rfl | rfl | rfl
                                    · exact HZ0.out
                                    · exact HZ1.out
                                    · exact HZ2.out
                                    · exact HZ3.out
                                    · exact HZ4.out
                                    · exact HZ5.out
                                    · exact HZ6.out
                                    · exact HZ7.out.1
                                    · exact HZ7.out.2.1
                                    · exact HC9.out
                                    · exact HZ7.out.2.2.1
                                    · exact HC11.out)
                                  have HYE := Lib.hid hye
                                  have KB : Calls Tryd.prog 30 #[.agg #[.int .i64 k, .int .i64 f, .int .i64 t, .int .i64 op, .int .i64 cd, .string key, .int .i64 m.N, .int .i64 m.c, .int .i64 m.s, .int .i64 m.t, .bool m.d, .slice xa xn xc, .slice sa sy.length sc, .slice ia it.length ic]] wq _ := rbytes_any ⟨k, f, t, op, cd, key, m, sy, it⟩ (xa, xn, xc) sa sc ia ic wq (right_fits hye) (HM.out.below HB.out)
                                  have hcell : wq.heap[w.heap.size]? = some (.cells #[.int .i64 k, .int .i64 f, .int .i64 t, .int .i64 op, .int .i64 cd, .string key, .int .i64 m.N, .int .i64 m.c, .int .i64 m.s, .int .i64 m.t, .bool m.d, .slice xa xn xc, .slice sa sy.length sc, .slice ia it.length ic] MMT (0, 0)) := HH.out
                                  have HREQ : Hid (decide ((msgLE ⟨k, f, t, op, cd, key, m, sy, it⟩).length ≤ 65536) = R) := Lib.hid (by rw [HR.out, hye]; rfl)
                                  obtain ⟨NB, hNB⟩ : ∃ n, n = (msgLE ⟨k, f, t, op, cd, key, m, sy, it⟩).length := ⟨_, rfl⟩
                                  rw [← hNB] at HREQ KB
                                  clear hye hNB
                                  go_upto_region 16 with fail
                                  clear c12 c13
                                  obtain ⟨⟨c0, c1, c2, c3, c4, c5, c6⟩, c7, c8, c9, c10, c11, c12, c13⟩ := cells14 hcell
                                  go_wp2_with fail
                                  (with_reducible refine KB.mono ?_)
                                  rintro e wz ⟨ad, cap, rfl, -, bz⟩
                                  have HBZ := Lib.hid (HB.out.trans (bz.mono HB.out.size))
                                  have hnb : (decide ((NB : Int) ≤ 65536)) = decide (NB ≤ 65536) := by
                                    by_cases h : NB ≤ 65536
                                    · rw [decide_eq_true h, decide_eq_true (show (NB : Int) ≤ 65536 by omega)]
                                    · rw [decide_eq_false h, decide_eq_false (show ¬ (NB : Int) ≤ 65536 by omega)]
                                  have HNB := Lib.hid hnb
                                  clear bz hnb KB hcell c0 c1 c2 c3 c4 c5 c6 c7 c8 c9 c10 c11 c12 c13
                                  go_wp2
                                  go_ret
                                  exact ⟨by rw [← HREQ.out, ← HNB.out]; rfl, HBZ.out⟩
end Go.Proofs.YtopnjjehefaghaaDoor
