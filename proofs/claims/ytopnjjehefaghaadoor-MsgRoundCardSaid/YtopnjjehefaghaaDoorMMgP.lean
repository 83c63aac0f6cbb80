/-
  msg's laws: are two messages alike? The whole decision.
-/
import Derived.Test.YtopnjjehefaghaaDoorMMgO
import Derived.Test.YtopnjjehefaghaaDoorMMgD
import Derived.Test.YtopnjjehefaghaaDoorMWL
namespace Go.Proofs.YtopnjjehefaghaaDoor
open Go.RowKit

def eqMe (m n : MeR) : Bool := decide (m.N = n.N ∧ m.c = n.c ∧ m.s = n.s ∧ m.t = n.t ∧ m.d = n.d ∧ m.l = n.l)
theorem eqMe_iff {m n : MeR} : eqMe m n = true ↔ m = n := by
  obtain ⟨a1, a2, a3, a4, a5, a6⟩ := m
  obtain ⟨b1, b2, b3, b4, b5, b6⟩ := n
  simp [eqMe]
theorem eqMe_self (m : MeR) : eqMe m m = true := eqMe_iff.2 rfl
set_option maxRecDepth 100000 in
set_option maxHeartbeats 8000000 in
theorem sameMeta_any (m n : MeR) (xa : Option Addr) (xn xc : Nat) (ya : Option Addr) (yn yc : Nat) (w : World) (h1 : BytesV w (xa, xn, xc) m.l) (h2 : BytesV w (ya, yn, yc) n.l) :
    Calls Tryd.prog 34 #[.agg (MC m (xa, xn, xc)), .agg (MC n (ya, yn, yc))] w fun e w' => e = .returned (.bool (eqMe m n)) ∧ Below w.heap.size w w' := by
  obtain ⟨a1, a2, a3, a4, a5, a6⟩ := m
  obtain ⟨e1, e2, e3, e4, e5, e6⟩ := n
  simp only at h1 h2
  obtain ⟨R, hR⟩ : ∃ r, r = eqMe ⟨a1, a2, a3, a4, a5, a6⟩ ⟨e1, e2, e3, e4, e5, e6⟩ := ⟨_, rfl⟩
  rw [← hR]
  have HR := Lib.hid hR
  obtain ⟨w1, hw1⟩ : ∃ x, x = w.alloc (.cells #[.int .i64 a1, .int .i64 a2, .int .i64 a3, .int .i64 a4, .bool a5, .slice xa xn xc] MT6) := ⟨_, rfl⟩
  obtain ⟨w2, hw2⟩ : ∃ x, x = w1.alloc (.cells #[.int .i64 e1, .int .i64 e2, .int .i64 e3, .int .i64 e4, .bool e5, .slice ya yn yc] MT6) := ⟨_, rfl⟩
  have g1 : w1.heap[w.heap.size]? = some (.cells #[.int .i64 a1, .int .i64 a2, .int .i64 a3, .int .i64 a4, .bool a5, .slice xa xn xc] MT6 (0, 0)) := by rw [hw1]; exact heap_alloc_new w _
  have hb1 : Below w1.heap.size w1 w2 := by rw [hw2]; exact below_alloc w1 _
  have hb0 : Below w.heap.size w w1 := by rw [hw1]; exact below_alloc w _
  have g2 := (hb1.block _ (Array.getElem?_eq_some_iff.1 g1).1).trans g1
  have hz1 : w1.heap.size = w.heap.size + 1 := by rw [hw1]; simp
  have k2 : w2.heap[w.heap.size + 1]? = some (.cells #[.int .i64 e1, .int .i64 e2, .int .i64 e3, .int .i64 e4, .bool e5, .slice ya yn yc] MT6 (0, 0)) := by rw [← hz1, hw2]; exact heap_alloc_new w1 _
  have hb : Below w.heap.size w w2 := hb0.trans (hb1.mono hb0.size)
  have HW1 := Lib.hid hw1
  have HW2 := Lib.hid hw2
  have H1 := Lib.hid (h1.below hb)
  have H2 := Lib.hid (h2.below hb)
  have HB := Lib.hid hb
  obtain ⟨c0, c1, c2, c3, c4, c5, -⟩ := cells6X g2
  obtain ⟨d0, d1, d2, d3, d4, d5, -⟩ := cells6X k2
  clear hz1 g1 g2 k2 hb1 hb0 hw1 hw2 hb h1 h2 hR
  go_enter Tryd.func34, Tryd.ntmps34
  go_upto_region 1 with fail
  rw [← HW1.out, ← HW2.out]
  refine WL.start ?_
  refine WL.take (v := ?tv0c1) (by rfl) ?ty0c1 ?tr0c1
  case ty0c1 => (go_simp; first | done | with_reducible rfl)
  simp only [Act.put, List.setIfInBounds_toArray, List.set_cons_zero, List.set_cons_succ]
  refine WL.take (v := ?tv1c2) (by rfl) ?ty1c2 ?tr1c2
  case ty1c2 => (go_simp; first | done | with_reducible rfl)
  simp only [Act.put, List.setIfInBounds_toArray, List.set_cons_zero, List.set_cons_succ]
  refine WL.take (v := ?tv2c3) (by rfl) ?ty2c3 ?tr2c3
  case ty2c3 => (go_simp; first | done | with_reducible rfl)
  simp only [Act.put, List.setIfInBounds_toArray, List.set_cons_zero, List.set_cons_succ]
  refine WL.take (v := ?tv3c4) (by rfl) ?ty3c4 ?tr3c4
  case ty3c4 => (go_simp; first | done | with_reducible rfl)
  simp only [Act.put, List.setIfInBounds_toArray, List.set_cons_zero, List.set_cons_succ]
  by_cases h4 : (a1, a2) = (e1, e2)
  · have KT : ∀ w, (binOp .eql 23 (.agg #[.int .i64 a1, .int .i64 a2]) (.agg #[.int .i64 e1, .int .i64 e2])).run Tryd.prog w = .ok (.bool true) w := fun w => by rw [eqlTag2, decide_eq_true h4]
    refine WL.take (v := ?tv4c5) (by rfl) ?ty4c5 ?tr4c5
    case ty4c5 => (go_simp; first | done | with_reducible rfl)
    simp only [Act.put, List.setIfInBounds_toArray, List.set_cons_zero, List.set_cons_succ]
    refine WL.take (v := ?tv5c6) (by rfl) ?ty5c6 ?tr5c6
    case ty5c6 => (go_simp; first | done | with_reducible rfl)
    simp only [Act.put, List.setIfInBounds_toArray, List.set_cons_zero, List.set_cons_succ]
    refine WL.take (v := ?tv6c7) (by rfl) ?ty6c7 ?tr6c7
    case ty6c7 => (go_simp; first | done | with_reducible rfl)
    simp only [Act.put, List.setIfInBounds_toArray, List.set_cons_zero, List.set_cons_succ]
    refine WL.take (v := ?tv7c8) (by rfl) ?ty7c8 ?tr7c8
    case ty7c8 => (go_simp; first | done | with_reducible rfl)
    simp only [Act.put, List.setIfInBounds_toArray, List.set_cons_zero, List.set_cons_succ]
    refine WL.take (v := ?tv8c9) (by rfl) ?ty8c9 ?tr8c9
    case ty8c9 => (go_simp; first | done | with_reducible rfl)
    simp only [Act.put, List.setIfInBounds_toArray, List.set_cons_zero, List.set_cons_succ]
    refine WL.take (v := ?tv9c10) (by rfl) ?ty9c10 ?tr9c10
    case ty9c10 => (go_simp; first | done | with_reducible rfl)
    simp only [Act.put, List.setIfInBounds_toArray, List.set_cons_zero, List.set_cons_succ]
    by_cases h10 : a3 = e3
    · refine WL.take (v := ?tv10c11) (by rfl) ?ty10c11 ?tr10c11
      case ty10c11 => (go_simp; first | done | with_reducible rfl)
      simp only [Act.put, List.setIfInBounds_toArray, List.set_cons_zero, List.set_cons_succ]
      refine WL.take (v := ?tv11c12) (by rfl) ?ty11c12 ?tr11c12
      case ty11c12 => (go_simp; first | done | with_reducible rfl)
      simp only [Act.put, List.setIfInBounds_toArray, List.set_cons_zero, List.set_cons_succ]
      refine WL.take (v := ?tv12c13) (by rfl) ?ty12c13 ?tr12c13
      case ty12c13 => (go_simp; first | done | with_reducible rfl)
      simp only [Act.put, List.setIfInBounds_toArray, List.set_cons_zero, List.set_cons_succ]
      refine WL.take (v := ?tv13c14) (by rfl) ?ty13c14 ?tr13c14
      case ty13c14 => (go_simp; first | done | with_reducible rfl)
      simp only [Act.put, List.setIfInBounds_toArray, List.set_cons_zero, List.set_cons_succ]
      refine WL.take (v := ?tv14c15) (by rfl) ?ty14c15 ?tr14c15
      case ty14c15 => (go_simp; first | done | with_reducible rfl)
      simp only [Act.put, List.setIfInBounds_toArray, List.set_cons_zero, List.set_cons_succ]
      refine WL.take (v := ?tv15c16) (by rfl) ?ty15c16 ?tr15c16
      case ty15c16 => (go_simp; first | done | with_reducible rfl)
      simp only [Act.put, List.setIfInBounds_toArray, List.set_cons_zero, List.set_cons_succ]
      refine WL.take (v := ?tv16c17) (by rfl) ?ty16c17 ?tr16c17
      case ty16c17 => (go_simp; first | done | with_reducible rfl)
      simp only [Act.put, List.setIfInBounds_toArray, List.set_cons_zero, List.set_cons_succ]
      by_cases h17 : a4 = e4
      · refine WL.take (v := ?tv17c18) (by rfl) ?ty17c18 ?tr17c18
        case ty17c18 => (go_simp; first | done | with_reducible rfl)
        simp only [Act.put, List.setIfInBounds_toArray, List.set_cons_zero, List.set_cons_succ]
        refine WL.take (v := ?tv18c19) (by rfl) ?ty18c19 ?tr18c19
        case ty18c19 => (go_simp; first | done | with_reducible rfl)
        simp only [Act.put, List.setIfInBounds_toArray, List.set_cons_zero, List.set_cons_succ]
        refine WL.take (v := ?tv19c20) (by rfl) ?ty19c20 ?tr19c20
        case ty19c20 => (go_simp; first | done | with_reducible rfl)
        simp only [Act.put, List.setIfInBounds_toArray, List.set_cons_zero, List.set_cons_succ]
        refine WL.take (v := ?tv20c21) (by rfl) ?ty20c21 ?tr20c21
        case ty20c21 => (go_simp; first | done | with_reducible rfl)
        simp only [Act.put, List.setIfInBounds_toArray, List.set_cons_zero, List.set_cons_succ]
        refine WL.take (v := ?tv21c22) (by rfl) ?ty21c22 ?tr21c22
        case ty21c22 => (go_simp; first | done | with_reducible rfl)
        simp only [Act.put, List.setIfInBounds_toArray, List.set_cons_zero, List.set_cons_succ]
        refine WL.take (v := ?tv22c23) (by rfl) ?ty22c23 ?tr22c23
        case ty22c23 => (go_simp; first | done | with_reducible rfl)
        simp only [Act.put, List.setIfInBounds_toArray, List.set_cons_zero, List.set_cons_succ]
        refine WL.take (v := ?tv23c24) (by rfl) ?ty23c24 ?tr23c24
        case ty23c24 => (go_simp; first | done | with_reducible rfl)
        simp only [Act.put, List.setIfInBounds_toArray, List.set_cons_zero, List.set_cons_succ]
        by_cases h24 : a5 = e5
        · have hq : (a5 == e5) = true := by rw [h24]; exact beq_self_eq_true e5
          refine WL.take (v := ?tv24c25) (by rfl) ?ty24c25 ?tr24c25
          case ty24c25 => (go_simp; first | done | with_reducible rfl)
          simp only [Act.put, List.setIfInBounds_toArray, List.set_cons_zero, List.set_cons_succ]
          refine WL.take (v := ?tv25c26) (by rfl) ?ty25c26 ?tr25c26
          case ty25c26 => (go_simp; first | done | with_reducible rfl)
          simp only [Act.put, List.setIfInBounds_toArray, List.set_cons_zero, List.set_cons_succ]
          refine WL.take (v := ?tv26c27) (by rfl) ?ty26c27 ?tr26c27
          case ty26c27 => (go_simp; first | done | with_reducible rfl)
          simp only [Act.put, List.setIfInBounds_toArray, List.set_cons_zero, List.set_cons_succ]
          refine WL.take (v := ?tv27c28) (by rfl) ?ty27c28 ?tr27c28
          case ty27c28 => (go_simp; first | done | with_reducible rfl)
          simp only [Act.put, List.setIfInBounds_toArray, List.set_cons_zero, List.set_cons_succ]
          refine WL.take (v := ?tv28c29) (by rfl) ?ty28c29 ?tr28c29
          case ty28c29 => (go_simp; first | done | with_reducible rfl)
          simp only [Act.put, List.setIfInBounds_toArray, List.set_cons_zero, List.set_cons_succ]
          refine WL.take (v := ?tv29c30) (by rfl) ?ty29c30 ?tr29c30
          case ty29c30 => (go_simp; first | done | with_reducible rfl)
          simp only [Act.put, List.setIfInBounds_toArray, List.set_cons_zero, List.set_cons_succ]
          refine WL.take (v := ?tv30c31) (by rfl) ?ty30c31 ?tr30c31
          case ty30c31 => (go_simp; first | done | with_reducible rfl)
          simp only [Act.put, List.setIfInBounds_toArray, List.set_cons_zero, List.set_cons_succ]
          by_cases h31 : a6 = e6
          · refine WL.call (by rfl) (fun K hK => ?_)
            go_simp
            have KB := sameBytes_any xa xn xc a6 ya yn yc e6 w2 H1.out H2.out
            rw [decide_eq_true h31] at KB
            (with_reducible refine KB.mono ?_)
            rintro e' w3 ⟨rfl, b3⟩
            have B3 := Lib.hid (HB.out.trans (b3.mono HB.out.size))
            clear KB b3
            refine hK.out _ _ ?_
            clear hK K
            try simp only [Act.put, List.setIfInBounds_toArray, List.set_cons_zero, List.set_cons_succ]
            refine WL.take (v := ?tv32c32) (by rfl) ?ty32c32 ?tr32c32
            case ty32c32 => (go_simp; first | done | with_reducible rfl)
            simp only [Act.put, List.setIfInBounds_toArray, List.set_cons_zero, List.set_cons_succ]
            refine WL.take (v := ?tv33c33) (by rfl) ?ty33c33 ?tr33c33
            case ty33c33 => (go_simp; first | done | with_reducible rfl)
            simp only [Act.put, List.setIfInBounds_toArray, List.set_cons_zero, List.set_cons_succ]
            refine WL.done ?_
            have hv : Hid (eqMe ⟨a1, a2, a3, a4, a5, a6⟩ ⟨e1, e2, e3, e4, e5, e6⟩ = true) := Lib.hid (decide_eq_true ⟨(Prod.mk.inj h4).1, (Prod.mk.inj h4).2, h10, h17, h24, h31⟩)
            go_wp2
            go_ret
            exact ⟨by rw [HR.out, hv.out]; rfl, B3.out⟩
          · refine WL.call (by rfl) (fun K hK => ?_)
            go_simp
            have KB := sameBytes_any xa xn xc a6 ya yn yc e6 w2 H1.out H2.out
            rw [decide_eq_false h31] at KB
            (with_reducible refine KB.mono ?_)
            rintro e' w3 ⟨rfl, b3⟩
            have B3 := Lib.hid (HB.out.trans (b3.mono HB.out.size))
            clear KB b3
            refine hK.out _ _ ?_
            clear hK K
            try simp only [Act.put, List.setIfInBounds_toArray, List.set_cons_zero, List.set_cons_succ]
            refine WL.take (v := ?tv32c34) (by rfl) ?ty32c34 ?tr32c34
            case ty32c34 => (go_simp; first | done | with_reducible rfl)
            simp only [Act.put, List.setIfInBounds_toArray, List.set_cons_zero, List.set_cons_succ]
            refine WL.take (v := ?tv33c35) (by rfl) ?ty33c35 ?tr33c35
            case ty33c35 => (go_simp; first | done | with_reducible rfl)
            simp only [Act.put, List.setIfInBounds_toArray, List.set_cons_zero, List.set_cons_succ]
            refine WL.done ?_
            have hv : Hid (eqMe ⟨a1, a2, a3, a4, a5, a6⟩ ⟨e1, e2, e3, e4, e5, e6⟩ = false) := Lib.hid (decide_eq_false (fun h => h31 h.2.2.2.2.2))
            go_wp2
            go_ret
            exact ⟨by rw [HR.out, hv.out]; rfl, B3.out⟩
        · have hq : (a5 == e5) = false := by exact beq_eq_false_iff_ne.2 h24
          refine WL.take (v := ?tv24c36) (by rfl) ?ty24c36 ?tr24c36
          case ty24c36 => (go_simp; first | done | with_reducible rfl)
          simp only [Act.put, List.setIfInBounds_toArray, List.set_cons_zero, List.set_cons_succ]
          refine WL.take (v := ?tv25c37) (by rfl) ?ty25c37 ?tr25c37
          case ty25c37 => (go_simp; first | done | with_reducible rfl)
          simp only [Act.put, List.setIfInBounds_toArray, List.set_cons_zero, List.set_cons_succ]
          refine WL.take (v := ?tv26c38) (by rfl) ?ty26c38 ?tr26c38
          case ty26c38 => (go_simp; first | done | with_reducible rfl)
          simp only [Act.put, List.setIfInBounds_toArray, List.set_cons_zero, List.set_cons_succ]
          refine WL.skip (by rfl) ?_
          simp only [Act.put, List.setIfInBounds_toArray, List.set_cons_zero, List.set_cons_succ]
          refine WL.skip (by rfl) ?_
          simp only [Act.put, List.setIfInBounds_toArray, List.set_cons_zero, List.set_cons_succ]
          refine WL.skip (by rfl) ?_
          simp only [Act.put, List.setIfInBounds_toArray, List.set_cons_zero, List.set_cons_succ]
          refine WL.skip (by rfl) ?_
          simp only [Act.put, List.setIfInBounds_toArray, List.set_cons_zero, List.set_cons_succ]
          refine WL.skip (by rfl) ?_
          simp only [Act.put, List.setIfInBounds_toArray, List.set_cons_zero, List.set_cons_succ]
          refine WL.take (v := ?tv32c39) (by rfl) ?ty32c39 ?tr32c39
          case ty32c39 => (go_simp; first | done | with_reducible rfl)
          simp only [Act.put, List.setIfInBounds_toArray, List.set_cons_zero, List.set_cons_succ]
          refine WL.take (v := ?tv33c40) (by rfl) ?ty33c40 ?tr33c40
          case ty33c40 => (go_simp; first | done | with_reducible rfl)
          simp only [Act.put, List.setIfInBounds_toArray, List.set_cons_zero, List.set_cons_succ]
          refine WL.done ?_
          have hv : Hid (eqMe ⟨a1, a2, a3, a4, a5, a6⟩ ⟨e1, e2, e3, e4, e5, e6⟩ = false) := Lib.hid (decide_eq_false (fun h => h24 h.2.2.2.2.1))
          go_wp2
          go_ret
          exact ⟨by rw [HR.out, hv.out]; rfl, HB.out⟩
      · have hq17 : (a4 == e4) = false := beq_eq_false_iff_ne.2 h17
        refine WL.take (v := ?tv17c41) (by rfl) ?ty17c41 ?tr17c41
        case ty17c41 => (go_simp; first | done | with_reducible rfl)
        simp only [Act.put, List.setIfInBounds_toArray, List.set_cons_zero, List.set_cons_succ]
        refine WL.take (v := ?tv18c42) (by rfl) ?ty18c42 ?tr18c42
        case ty18c42 => (go_simp; first | done | with_reducible rfl)
        simp only [Act.put, List.setIfInBounds_toArray, List.set_cons_zero, List.set_cons_succ]
        refine WL.take (v := ?tv19c43) (by rfl) ?ty19c43 ?tr19c43
        case ty19c43 => (go_simp; first | done | with_reducible rfl)
        simp only [Act.put, List.setIfInBounds_toArray, List.set_cons_zero, List.set_cons_succ]
        refine WL.skip (by rfl) ?_
        simp only [Act.put, List.setIfInBounds_toArray, List.set_cons_zero, List.set_cons_succ]
        refine WL.skip (by rfl) ?_
        simp only [Act.put, List.setIfInBounds_toArray, List.set_cons_zero, List.set_cons_succ]
        refine WL.skip (by rfl) ?_
        simp only [Act.put, List.setIfInBounds_toArray, List.set_cons_zero, List.set_cons_succ]
        refine WL.skip (by rfl) ?_
        simp only [Act.put, List.setIfInBounds_toArray, List.set_cons_zero, List.set_cons_succ]
        refine WL.skip (by rfl) ?_
        simp only [Act.put, List.setIfInBounds_toArray, List.set_cons_zero, List.set_cons_succ]
        refine WL.take (v := ?tv25c44) (by rfl) ?ty25c44 ?tr25c44
        case ty25c44 => (go_simp; first | done | with_reducible rfl)
        simp only [Act.put, List.setIfInBounds_toArray, List.set_cons_zero, List.set_cons_succ]
        refine WL.take (v := ?tv26c45) (by rfl) ?ty26c45 ?tr26c45
        case ty26c45 => (go_simp; first | done | with_reducible rfl)
        simp only [Act.put, List.setIfInBounds_toArray, List.set_cons_zero, List.set_cons_succ]
        refine WL.skip (by rfl) ?_
        simp only [Act.put, List.setIfInBounds_toArray, List.set_cons_zero, List.set_cons_succ]
        refine WL.skip (by rfl) ?_
        simp only [Act.put, List.setIfInBounds_toArray, List.set_cons_zero, List.set_cons_succ]
        refine WL.skip (by rfl) ?_
        simp only [Act.put, List.setIfInBounds_toArray, List.set_cons_zero, List.set_cons_succ]
        refine WL.skip (by rfl) ?_
        simp only [Act.put, List.setIfInBounds_toArray, List.set_cons_zero, List.set_cons_succ]
        refine WL.skip (by rfl) ?_
        simp only [Act.put, List.setIfInBounds_toArray, List.set_cons_zero, List.set_cons_succ]
        refine WL.take (v := ?tv32c46) (by rfl) ?ty32c46 ?tr32c46
        case ty32c46 => (go_simp; first | done | with_reducible rfl)
        simp only [Act.put, List.setIfInBounds_toArray, List.set_cons_zero, List.set_cons_succ]
        refine WL.take (v := ?tv33c47) (by rfl) ?ty33c47 ?tr33c47
        case ty33c47 => (go_simp; first | done | with_reducible rfl)
        simp only [Act.put, List.setIfInBounds_toArray, List.set_cons_zero, List.set_cons_succ]
        refine WL.done ?_
        have hv : Hid (eqMe ⟨a1, a2, a3, a4, a5, a6⟩ ⟨e1, e2, e3, e4, e5, e6⟩ = false) := Lib.hid (decide_eq_false (fun h => h17 h.2.2.2.1))
        go_wp2
        go_ret
        exact ⟨by rw [HR.out, hv.out]; rfl, HB.out⟩
    · have hq10 : (a3 == e3) = false := beq_eq_false_iff_ne.2 h10
      refine WL.take (v := ?tv10c48) (by rfl) ?ty10c48 ?tr10c48
      case ty10c48 => (go_simp; first | done | with_reducible rfl)
      simp only [Act.put, List.setIfInBounds_toArray, List.set_cons_zero, List.set_cons_succ]
      refine WL.take (v := ?tv11c49) (by rfl) ?ty11c49 ?tr11c49
      case ty11c49 => (go_simp; first | done | with_reducible rfl)
      simp only [Act.put, List.setIfInBounds_toArray, List.set_cons_zero, List.set_cons_succ]
      refine WL.take (v := ?tv12c50) (by rfl) ?ty12c50 ?tr12c50
      case ty12c50 => (go_simp; first | done | with_reducible rfl)
      simp only [Act.put, List.setIfInBounds_toArray, List.set_cons_zero, List.set_cons_succ]
      refine WL.skip (by rfl) ?_
      simp only [Act.put, List.setIfInBounds_toArray, List.set_cons_zero, List.set_cons_succ]
      refine WL.skip (by rfl) ?_
      simp only [Act.put, List.setIfInBounds_toArray, List.set_cons_zero, List.set_cons_succ]
      refine WL.skip (by rfl) ?_
      simp only [Act.put, List.setIfInBounds_toArray, List.set_cons_zero, List.set_cons_succ]
      refine WL.skip (by rfl) ?_
      simp only [Act.put, List.setIfInBounds_toArray, List.set_cons_zero, List.set_cons_succ]
      refine WL.skip (by rfl) ?_
      simp only [Act.put, List.setIfInBounds_toArray, List.set_cons_zero, List.set_cons_succ]
      refine WL.take (v := ?tv18c51) (by rfl) ?ty18c51 ?tr18c51
      case ty18c51 => (go_simp; first | done | with_reducible rfl)
      simp only [Act.put, List.setIfInBounds_toArray, List.set_cons_zero, List.set_cons_succ]
      refine WL.take (v := ?tv19c52) (by rfl) ?ty19c52 ?tr19c52
      case ty19c52 => (go_simp; first | done | with_reducible rfl)
      simp only [Act.put, List.setIfInBounds_toArray, List.set_cons_zero, List.set_cons_succ]
      refine WL.skip (by rfl) ?_
      simp only [Act.put, List.setIfInBounds_toArray, List.set_cons_zero, List.set_cons_succ]
      refine WL.skip (by rfl) ?_
      simp only [Act.put, List.setIfInBounds_toArray, List.set_cons_zero, List.set_cons_succ]
      refine WL.skip (by rfl) ?_
      simp only [Act.put, List.setIfInBounds_toArray, List.set_cons_zero, List.set_cons_succ]
      refine WL.skip (by rfl) ?_
      simp only [Act.put, List.setIfInBounds_toArray, List.set_cons_zero, List.set_cons_succ]
      refine WL.skip (by rfl) ?_
      simp only [Act.put, List.setIfInBounds_toArray, List.set_cons_zero, List.set_cons_succ]
      refine WL.take (v := ?tv25c53) (by rfl) ?ty25c53 ?tr25c53
      case ty25c53 => (go_simp; first | done | with_reducible rfl)
      simp only [Act.put, List.setIfInBounds_toArray, List.set_cons_zero, List.set_cons_succ]
      refine WL.take (v := ?tv26c54) (by rfl) ?ty26c54 ?tr26c54
      case ty26c54 => (go_simp; first | done | with_reducible rfl)
      simp only [Act.put, List.setIfInBounds_toArray, List.set_cons_zero, List.set_cons_succ]
      refine WL.skip (by rfl) ?_
      simp only [Act.put, List.setIfInBounds_toArray, List.set_cons_zero, List.set_cons_succ]
      refine WL.skip (by rfl) ?_
      simp only [Act.put, List.setIfInBounds_toArray, List.set_cons_zero, List.set_cons_succ]
      refine WL.skip (by rfl) ?_
      simp only [Act.put, List.setIfInBounds_toArray, List.set_cons_zero, List.set_cons_succ]
      refine WL.skip (by rfl) ?_
      simp only [Act.put, List.setIfInBounds_toArray, List.set_cons_zero, List.set_cons_succ]
      refine WL.skip (by rfl) ?_
      simp only [Act.put, List.setIfInBounds_toArray, List.set_cons_zero, List.set_cons_succ]
      refine WL.take (v := ?tv32c55) (by rfl) ?ty32c55 ?tr32c55
      case ty32c55 => (go_simp; first | done | with_reducible rfl)
      simp only [Act.put, List.setIfInBounds_toArray, List.set_cons_zero, List.set_cons_succ]
      refine WL.take (v := ?tv33c56) (by rfl) ?ty33c56 ?tr33c56
      case ty33c56 => (go_simp; first | done | with_reducible rfl)
      simp only [Act.put, List.setIfInBounds_toArray, List.set_cons_zero, List.set_cons_succ]
      refine WL.done ?_
      have hv : Hid (eqMe ⟨a1, a2, a3, a4, a5, a6⟩ ⟨e1, e2, e3, e4, e5, e6⟩ = false) := Lib.hid (decide_eq_false (fun h => h10 h.2.2.1))
      go_wp2
      go_ret
      exact ⟨by rw [HR.out, hv.out]; rfl, HB.out⟩
  · have KT : ∀ w, (binOp .eql 23 (.agg #[.int .i64 a1, .int .i64 a2]) (.agg #[.int .i64 e1, .int .i64 e2])).run Tryd.prog w = .ok (.bool false) w := fun w => by rw [eqlTag2, decide_eq_false h4]
    refine WL.take (v := ?tv4c57) (by rfl) ?ty4c57 ?tr4c57
    case ty4c57 => (go_simp; first | done | with_reducible rfl)
    simp only [Act.put, List.setIfInBounds_toArray, List.set_cons_zero, List.set_cons_succ]
    refine WL.take (v := ?tv5c58) (by rfl) ?ty5c58 ?tr5c58
    case ty5c58 => (go_simp; first | done | with_reducible rfl)
    simp only [Act.put, List.setIfInBounds_toArray, List.set_cons_zero, List.set_cons_succ]
    refine WL.skip (by rfl) ?_
    simp only [Act.put, List.setIfInBounds_toArray, List.set_cons_zero, List.set_cons_succ]
    refine WL.skip (by rfl) ?_
    simp only [Act.put, List.setIfInBounds_toArray, List.set_cons_zero, List.set_cons_succ]
    refine WL.skip (by rfl) ?_
    simp only [Act.put, List.setIfInBounds_toArray, List.set_cons_zero, List.set_cons_succ]
    refine WL.skip (by rfl) ?_
    simp only [Act.put, List.setIfInBounds_toArray, List.set_cons_zero, List.set_cons_succ]
    refine WL.skip (by rfl) ?_
    simp only [Act.put, List.setIfInBounds_toArray, List.set_cons_zero, List.set_cons_succ]
    refine WL.take (v := ?tv11c59) (by rfl) ?ty11c59 ?tr11c59
    case ty11c59 => (go_simp; first | done | with_reducible rfl)
    simp only [Act.put, List.setIfInBounds_toArray, List.set_cons_zero, List.set_cons_succ]
    refine WL.take (v := ?tv12c60) (by rfl) ?ty12c60 ?tr12c60
    case ty12c60 => (go_simp; first | done | with_reducible rfl)
    simp only [Act.put, List.setIfInBounds_toArray, List.set_cons_zero, List.set_cons_succ]
    refine WL.skip (by rfl) ?_
    simp only [Act.put, List.setIfInBounds_toArray, List.set_cons_zero, List.set_cons_succ]
    refine WL.skip (by rfl) ?_
    simp only [Act.put, List.setIfInBounds_toArray, List.set_cons_zero, List.set_cons_succ]
    refine WL.skip (by rfl) ?_
    simp only [Act.put, List.setIfInBounds_toArray, List.set_cons_zero, List.set_cons_succ]
    refine WL.skip (by rfl) ?_
    simp only [Act.put, List.setIfInBounds_toArray, List.set_cons_zero, List.set_cons_succ]
    refine WL.skip (by rfl) ?_
    simp only [Act.put, List.setIfInBounds_toArray, List.set_cons_zero, List.set_cons_succ]
    refine WL.take (v := ?tv18c61) (by rfl) ?ty18c61 ?tr18c61
    case ty18c61 => (go_simp; first | done | with_reducible rfl)
    simp only [Act.put, List.setIfInBounds_toArray, List.set_cons_zero, List.set_cons_succ]
    refine WL.take (v := ?tv19c62) (by rfl) ?ty19c62 ?tr19c62
    case ty19c62 => (go_simp; first | done | with_reducible rfl)
    simp only [Act.put, List.setIfInBounds_toArray, List.set_cons_zero, List.set_cons_succ]
    refine WL.skip (by rfl) ?_
    simp only [Act.put, List.setIfInBounds_toArray, List.set_cons_zero, List.set_cons_succ]
    refine WL.skip (by rfl) ?_
    simp only [Act.put, List.setIfInBounds_toArray, List.set_cons_zero, List.set_cons_succ]
    refine WL.skip (by rfl) ?_
    simp only [Act.put, List.setIfInBounds_toArray, List.set_cons_zero, List.set_cons_succ]
    refine WL.skip (by rfl) ?_
    simp only [Act.put, List.setIfInBounds_toArray, List.set_cons_zero, List.set_cons_succ]
    refine WL.skip (by rfl) ?_
    simp only [Act.put, List.setIfInBounds_toArray, List.set_cons_zero, List.set_cons_succ]
    refine WL.take (v := ?tv25c63) (by rfl) ?ty25c63 ?tr25c63
    case ty25c63 => (go_simp; first | done | with_reducible rfl)
    simp only [Act.put, List.setIfInBounds_toArray, List.set_cons_zero, List.set_cons_succ]
    refine WL.take (v := ?tv26c64) (by rfl) ?ty26c64 ?tr26c64
    case ty26c64 => (go_simp; first | done | with_reducible rfl)
    simp only [Act.put, List.setIfInBounds_toArray, List.set_cons_zero, List.set_cons_succ]
    refine WL.skip (by rfl) ?_
    simp only [Act.put, List.setIfInBounds_toArray, List.set_cons_zero, List.set_cons_succ]
    refine WL.skip (by rfl) ?_
    simp only [Act.put, List.setIfInBounds_toArray, List.set_cons_zero, List.set_cons_succ]
    refine WL.skip (by rfl) ?_
    simp only [Act.put, List.setIfInBounds_toArray, List.set_cons_zero, List.set_cons_succ]
    refine WL.skip (by rfl) ?_
    simp only [Act.put, List.setIfInBounds_toArray, List.set_cons_zero, List.set_cons_succ]
    refine WL.skip (by rfl) ?_
    simp only [Act.put, List.setIfInBounds_toArray, List.set_cons_zero, List.set_cons_succ]
    refine WL.take (v := ?tv32c65) (by rfl) ?ty32c65 ?tr32c65
    case ty32c65 => (go_simp; first | done | with_reducible rfl)
    simp only [Act.put, List.setIfInBounds_toArray, List.set_cons_zero, List.set_cons_succ]
    refine WL.take (v := ?tv33c66) (by rfl) ?ty33c66 ?tr33c66
    case ty33c66 => (go_simp; first | done | with_reducible rfl)
    simp only [Act.put, List.setIfInBounds_toArray, List.set_cons_zero, List.set_cons_succ]
    refine WL.done ?_
    have hv : Hid (eqMe ⟨a1, a2, a3, a4, a5, a6⟩ ⟨e1, e2, e3, e4, e5, e6⟩ = false) := Lib.hid (decide_eq_false (fun h => h4 (by rw [show a1 = e1 from h.1, show a2 = e2 from h.2.1])))
    go_wp2
    go_ret
    exact ⟨by rw [HR.out, hv.out]; rfl, HB.out⟩

instance : DecidableEq MeR := fun _ _ => decidable_of_iff _ eqMe_iff
theorem eqMe_dec (m n : MeR) : eqMe m n = decide (m = n) := by
  by_cases h : m = n
  · rw [decide_eq_true h]; exact eqMe_iff.2 h
  · rw [decide_eq_false h]
    cases e : eqMe m n with
    | false => rfl
    | true => exact absurd (eqMe_iff.1 e) h
instance : DecidableEq ItR := fun a b => decidable_of_iff (a.key = b.key ∧ a.m = b.m) ⟨fun h => by obtain ⟨k, m⟩ := a; obtain ⟨k', m'⟩ := b; obtain ⟨h1, h2⟩ := h; simp only at h1 h2; rw [h1, h2], fun h => by rw [h]; exact ⟨rfl, rfl⟩⟩
instance : DecidableEq MsR := fun a b => decidable_of_iff (a.k = b.k ∧ a.f = b.f ∧ a.t = b.t ∧ a.op = b.op ∧ a.cd = b.cd ∧ a.key = b.key ∧ a.m = b.m ∧ a.sy = b.sy ∧ a.it = b.it)
  ⟨fun h => by
    obtain ⟨a1, a2, a3, a4, a5, a6, a7, a8, a9⟩ := a
    obtain ⟨b1, b2, b3, b4, b5, b6, b7, b8, b9⟩ := b
    obtain ⟨h1, h2, h3, h4, h5, h6, h7, h8, h9⟩ := h
    simp only at h1 h2 h3 h4 h5 h6 h7 h8 h9
    rw [h1, h2, h3, h4, h5, h6, h7, h8, h9], fun h => by rw [h]; exact ⟨rfl, rfl, rfl, rfl, rfl, rfl, rfl, rfl, rfl⟩⟩
set_option maxRecDepth 100000 in
set_option maxHeartbeats 16000000 in
theorem sameMsg_any (M N : MsR) (x : Option Addr × Nat × Nat) (sa : Option Addr) (sc : Nat) (ia : Option Addr) (ic : Nat) (y : Option Addr × Nat × Nat) (ta : Option Addr) (tc : Nat) (ja : Option Addr) (jc : Nat) (w : World) (hM : MsV w M x sa ia) (hN : MsV w N y ta ja) (hs : M.sy.length ≤ 100000) (hi : M.it.length ≤ 100000) :
    Calls Tryd.prog 17 #[.agg (MsC M x sa sc ia ic), .agg (MsC N y ta tc ja jc)] w fun e w' => e = .returned (.bool (decide (M = N))) ∧ Below w.heap.size w w' := by
  obtain ⟨k1, f1, t1, o1, d1, key1, m1, s1, i1⟩ := M
  obtain ⟨k2, f2, t2, o2, d2, key2, m2, s2, i2⟩ := N
  obtain ⟨xa, xn, xc⟩ := x
  obtain ⟨ya, yn, yc⟩ := y
  simp only at hs hi
  obtain ⟨R, hR⟩ : ∃ r, r = decide ((⟨k1, f1, t1, o1, d1, key1, m1, s1, i1⟩ : MsR) = ⟨k2, f2, t2, o2, d2, key2, m2, s2, i2⟩) := ⟨_, rfl⟩
  rw [← hR]
  have HNO : Hid (¬ (⟨k1, f1, t1, o1, d1, key1, m1, s1, i1⟩ : MsR) = ⟨k2, f2, t2, o2, d2, key2, m2, s2, i2⟩ → R = false) := Lib.hid (fun h => by rw [hR]; exact decide_eq_false h)
  have HYE : Hid ((⟨k1, f1, t1, o1, d1, key1, m1, s1, i1⟩ : MsR) = ⟨k2, f2, t2, o2, d2, key2, m2, s2, i2⟩ → R = true) := Lib.hid (fun h => by rw [hR]; exact decide_eq_true h)
  have hM1 : BytesV w (xa, xn, xc) m1.l := hM.x
  have hM2 : SyV w sa s1.length s1 := hM.s
  have hM3 : ItV w ia i1.length i1 := hM.i
  have hN1 : BytesV w (ya, yn, yc) m2.l := hN.x
  have hN2 : SyV w ta s2.length s2 := hN.s
  have hN3 : ItV w ja i2.length i2 := hN.i
  obtain ⟨I1, hI1⟩ : ∃ n, n = i1.length := ⟨_, rfl⟩
  obtain ⟨I2, hI2⟩ : ∃ n, n = i2.length := ⟨_, rfl⟩
  obtain ⟨S1, hS1⟩ : ∃ n, n = s1.length := ⟨_, rfl⟩
  obtain ⟨S2, hS2⟩ : ∃ n, n = s2.length := ⟨_, rfl⟩
  have hc1 : MsC ⟨k1, f1, t1, o1, d1, key1, m1, s1, i1⟩ (xa, xn, xc) sa sc ia ic = #[.int .i64 k1, .int .i64 f1, .int .i64 t1, .int .i64 o1, .int .i64 d1, .string key1, .int .i64 m1.N, .int .i64 m1.c, .int .i64 m1.s, .int .i64 m1.t, .bool m1.d, .slice xa xn xc, .slice sa S1 sc, .slice ia I1 ic] := by simp only [MsC, hI1, hS1]
  have hc2 : MsC ⟨k2, f2, t2, o2, d2, key2, m2, s2, i2⟩ (ya, yn, yc) ta tc ja jc = #[.int .i64 k2, .int .i64 f2, .int .i64 t2, .int .i64 o2, .int .i64 d2, .string key2, .int .i64 m2.N, .int .i64 m2.c, .int .i64 m2.s, .int .i64 m2.t, .bool m2.d, .slice ya yn yc, .slice ta S2 tc, .slice ja I2 jc] := by simp only [MsC, hI2, hS2]
  rw [hc1, hc2]
  rw [← hI1] at hM3 hi
  rw [← hI2] at hN3
  rw [← hS1] at hM2 hs
  rw [← hS2] at hN2
  obtain ⟨w1, hw1⟩ : ∃ x, x = w.alloc (.cells #[.int .i64 k1, .int .i64 f1, .int .i64 t1, .int .i64 o1, .int .i64 d1, .string key1, .int .i64 m1.N, .int .i64 m1.c, .int .i64 m1.s, .int .i64 m1.t, .bool m1.d, .slice xa xn xc, .slice sa S1 sc, .slice ia I1 ic] MMT) := ⟨_, rfl⟩
  obtain ⟨w2, hw2⟩ : ∃ x, x = w1.alloc (.cells #[.int .i64 k2, .int .i64 f2, .int .i64 t2, .int .i64 o2, .int .i64 d2, .string key2, .int .i64 m2.N, .int .i64 m2.c, .int .i64 m2.s, .int .i64 m2.t, .bool m2.d, .slice ya yn yc, .slice ta S2 tc, .slice ja I2 jc] MMT) := ⟨_, rfl⟩
  have g1 : w1.heap[w.heap.size]? = some (.cells #[.int .i64 k1, .int .i64 f1, .int .i64 t1, .int .i64 o1, .int .i64 d1, .string key1, .int .i64 m1.N, .int .i64 m1.c, .int .i64 m1.s, .int .i64 m1.t, .bool m1.d, .slice xa xn xc, .slice sa S1 sc, .slice ia I1 ic] MMT (0, 0)) := by rw [hw1]; exact heap_alloc_new w _
  have hb1 : Below w1.heap.size w1 w2 := by rw [hw2]; exact below_alloc w1 _
  have hb0 : Below w.heap.size w w1 := by rw [hw1]; exact below_alloc w _
  have g2 := (hb1.block _ (Array.getElem?_eq_some_iff.1 g1).1).trans g1
  have hz1 : w1.heap.size = w.heap.size + 1 := by rw [hw1]; simp
  have k2' : w2.heap[w.heap.size + 1]? = some (.cells #[.int .i64 k2, .int .i64 f2, .int .i64 t2, .int .i64 o2, .int .i64 d2, .string key2, .int .i64 m2.N, .int .i64 m2.c, .int .i64 m2.s, .int .i64 m2.t, .bool m2.d, .slice ya yn yc, .slice ta S2 tc, .slice ja I2 jc] MMT (0, 0)) := by rw [← hz1, hw2]; exact heap_alloc_new w1 _
  have hb : Below w.heap.size w w2 := hb0.trans (hb1.mono hb0.size)
  have HW1 := Lib.hid hw1
  have HW2 := Lib.hid hw2
  have H1 := Lib.hid hM1
  have H2 := Lib.hid hM2
  have H3 := Lib.hid hM3
  have J1 := Lib.hid hN1
  have J2 := Lib.hid hN2
  have J3 := Lib.hid hN3
  have HI1 := Lib.hid hI1
  have HI2 := Lib.hid hI2
  clear hz1 g1 hb1 hb0 hw1 hw2 hR hM hN hc1 hc2 hM1 hM2 hM3 hN1 hN2 hN3 hI1 hI2 hS1 hS2
  go_enter Tryd.func17, Tryd.ntmps17
  go_upto_region 1 with fail
  rw [← HW1.out, ← HW2.out]
  clear HW1 HW2
  obtain ⟨⟨c0, c1, c2, c3, c4, c5, c6⟩, c7, c8, c9, c10, c11, c12, c13⟩ := cells14 g2
  obtain ⟨⟨b0, b1, b2, b3, b4, b5, b6⟩, b7, b8, b9, b10, b11, b12, b13⟩ := cells14 k2'
  go_cut [70] (fun v wx => ∃ r : Bool, v = .bool r ∧ wx.heap[w.heap.size]? = some (.cells #[.int .i64 k1, .int .i64 f1, .int .i64 t1, .int .i64 o1, .int .i64 d1, .string key1, .int .i64 m1.N, .int .i64 m1.c, .int .i64 m1.s, .int .i64 m1.t, .bool m1.d, .slice xa xn xc, .slice sa S1 sc, .slice ia I1 ic] MMT (0, 0)) ∧ wx.heap[w.heap.size + 1]? = some (.cells #[.int .i64 k2, .int .i64 f2, .int .i64 t2, .int .i64 o2, .int .i64 d2, .string key2, .int .i64 m2.N, .int .i64 m2.c, .int .i64 m2.s, .int .i64 m2.t, .bool m2.d, .slice ya yn yc, .slice ta S2 tc, .slice ja I2 jc] MMT (0, 0)) ∧ Below w.heap.size w wx ∧ Hid (r = true → R = false) ∧ Hid (r = false → k1 = k2 ∧ f1 = f2 ∧ t1 = t2 ∧ o1 = o2 ∧ d1 = d2 ∧ key1 = key2 ∧ m1 = m2 ∧ s1 = s2 ∧ I1 = I2))
  case first =>
    refine WL.start ?_
    refine WL.take (v := ?tv0c67) (by rfl) ?ty0c67 ?tr0c67
    case ty0c67 => (go_simp; first | done | with_reducible rfl)
    simp only [Act.put, List.setIfInBounds_toArray, List.set_cons_zero, List.set_cons_succ]
    refine WL.take (v := ?tv1c68) (by rfl) ?ty1c68 ?tr1c68
    case ty1c68 => (go_simp; first | done | with_reducible rfl)
    simp only [Act.put, List.setIfInBounds_toArray, List.set_cons_zero, List.set_cons_succ]
    refine WL.take (v := ?tv2c69) (by rfl) ?ty2c69 ?tr2c69
    case ty2c69 => (go_simp; first | done | with_reducible rfl)
    simp only [Act.put, List.setIfInBounds_toArray, List.set_cons_zero, List.set_cons_succ]
    refine WL.take (v := ?tv3c70) (by rfl) ?ty3c70 ?tr3c70
    case ty3c70 => (go_simp; first | done | with_reducible rfl)
    simp only [Act.put, List.setIfInBounds_toArray, List.set_cons_zero, List.set_cons_succ]
    by_cases h4 : k1 = k2
    · have hqh4 : (k1 == k2) = true := beq_iff_eq.2 h4
      have hrh4 : (k1 != k2) = false := bne_eq_false_iff_eq.2 h4
      have Zh4 := Lib.hid h4
      clear h4
      refine WL.take (v := ?tv4c71) (by rfl) ?ty4c71 ?tr4c71
      case ty4c71 => (go_simp; first | done | with_reducible rfl)
      simp only [Act.put, List.setIfInBounds_toArray, List.set_cons_zero, List.set_cons_succ]
      refine WL.take (v := ?tv5c72) (by rfl) ?ty5c72 ?tr5c72
      case ty5c72 => (go_simp; first | done | with_reducible rfl)
      simp only [Act.put, List.setIfInBounds_toArray, List.set_cons_zero, List.set_cons_succ]
      refine WL.take (v := ?tv6c73) (by rfl) ?ty6c73 ?tr6c73
      case ty6c73 => (go_simp; first | done | with_reducible rfl)
      simp only [Act.put, List.setIfInBounds_toArray, List.set_cons_zero, List.set_cons_succ]
      refine WL.take (v := ?tv7c74) (by rfl) ?ty7c74 ?tr7c74
      case ty7c74 => (go_simp; first | done | with_reducible rfl)
      simp only [Act.put, List.setIfInBounds_toArray, List.set_cons_zero, List.set_cons_succ]
      refine WL.take (v := ?tv8c75) (by rfl) ?ty8c75 ?tr8c75
      case ty8c75 => (go_simp; first | done | with_reducible rfl)
      simp only [Act.put, List.setIfInBounds_toArray, List.set_cons_zero, List.set_cons_succ]
      refine WL.take (v := ?tv9c76) (by rfl) ?ty9c76 ?tr9c76
      case ty9c76 => (go_simp; first | done | with_reducible rfl)
      simp only [Act.put, List.setIfInBounds_toArray, List.set_cons_zero, List.set_cons_succ]
      by_cases h10 : f1 = f2
      · have hqh10 : (f1 == f2) = true := beq_iff_eq.2 h10
        have hrh10 : (f1 != f2) = false := bne_eq_false_iff_eq.2 h10
        have Zh10 := Lib.hid h10
        clear h10
        refine WL.take (v := ?tv10c77) (by rfl) ?ty10c77 ?tr10c77
        case ty10c77 => (go_simp; first | done | with_reducible rfl)
        simp only [Act.put, List.setIfInBounds_toArray, List.set_cons_zero, List.set_cons_succ]
        refine WL.take (v := ?tv11c78) (by rfl) ?ty11c78 ?tr11c78
        case ty11c78 => (go_simp; first | done | with_reducible rfl)
        simp only [Act.put, List.setIfInBounds_toArray, List.set_cons_zero, List.set_cons_succ]
        refine WL.take (v := ?tv12c79) (by rfl) ?ty12c79 ?tr12c79
        case ty12c79 => (go_simp; first | done | with_reducible rfl)
        simp only [Act.put, List.setIfInBounds_toArray, List.set_cons_zero, List.set_cons_succ]
        refine WL.take (v := ?tv13c80) (by rfl) ?ty13c80 ?tr13c80
        case ty13c80 => (go_simp; first | done | with_reducible rfl)
        simp only [Act.put, List.setIfInBounds_toArray, List.set_cons_zero, List.set_cons_succ]
        refine WL.take (v := ?tv14c81) (by rfl) ?ty14c81 ?tr14c81
        case ty14c81 => (go_simp; first | done | with_reducible rfl)
        simp only [Act.put, List.setIfInBounds_toArray, List.set_cons_zero, List.set_cons_succ]
        refine WL.take (v := ?tv15c82) (by rfl) ?ty15c82 ?tr15c82
        case ty15c82 => (go_simp; first | done | with_reducible rfl)
        simp only [Act.put, List.setIfInBounds_toArray, List.set_cons_zero, List.set_cons_succ]
        refine WL.take (v := ?tv16c83) (by rfl) ?ty16c83 ?tr16c83
        case ty16c83 => (go_simp; first | done | with_reducible rfl)
        simp only [Act.put, List.setIfInBounds_toArray, List.set_cons_zero, List.set_cons_succ]
        by_cases h17 : t1 = t2
        · have hqh17 : (t1 == t2) = true := beq_iff_eq.2 h17
          have hrh17 : (t1 != t2) = false := bne_eq_false_iff_eq.2 h17
          have Zh17 := Lib.hid h17
          clear h17
          refine WL.take (v := ?tv17c84) (by rfl) ?ty17c84 ?tr17c84
          case ty17c84 => (go_simp; first | done | with_reducible rfl)
          simp only [Act.put, List.setIfInBounds_toArray, List.set_cons_zero, List.set_cons_succ]
          refine WL.take (v := ?tv18c85) (by rfl) ?ty18c85 ?tr18c85
          case ty18c85 => (go_simp; first | done | with_reducible rfl)
          simp only [Act.put, List.setIfInBounds_toArray, List.set_cons_zero, List.set_cons_succ]
          refine WL.take (v := ?tv19c86) (by rfl) ?ty19c86 ?tr19c86
          case ty19c86 => (go_simp; first | done | with_reducible rfl)
          simp only [Act.put, List.setIfInBounds_toArray, List.set_cons_zero, List.set_cons_succ]
          refine WL.take (v := ?tv20c87) (by rfl) ?ty20c87 ?tr20c87
          case ty20c87 => (go_simp; first | done | with_reducible rfl)
          simp only [Act.put, List.setIfInBounds_toArray, List.set_cons_zero, List.set_cons_succ]
          refine WL.take (v := ?tv21c88) (by rfl) ?ty21c88 ?tr21c88
          case ty21c88 => (go_simp; first | done | with_reducible rfl)
          simp only [Act.put, List.setIfInBounds_toArray, List.set_cons_zero, List.set_cons_succ]
          refine WL.take (v := ?tv22c89) (by rfl) ?ty22c89 ?tr22c89
          case ty22c89 => (go_simp; first | done | with_reducible rfl)
          simp only [Act.put, List.setIfInBounds_toArray, List.set_cons_zero, List.set_cons_succ]
          refine WL.take (v := ?tv23c90) (by rfl) ?ty23c90 ?tr23c90
          case ty23c90 => (go_simp; first | done | with_reducible rfl)
          simp only [Act.put, List.setIfInBounds_toArray, List.set_cons_zero, List.set_cons_succ]
          by_cases h24 : o1 = o2
          · have hqh24 : (o1 == o2) = true := beq_iff_eq.2 h24
            have hrh24 : (o1 != o2) = false := bne_eq_false_iff_eq.2 h24
            have Zh24 := Lib.hid h24
            clear h24
            refine WL.take (v := ?tv24c91) (by rfl) ?ty24c91 ?tr24c91
            case ty24c91 => (go_simp; first | done | with_reducible rfl)
            simp only [Act.put, List.setIfInBounds_toArray, List.set_cons_zero, List.set_cons_succ]
            refine WL.take (v := ?tv25c92) (by rfl) ?ty25c92 ?tr25c92
            case ty25c92 => (go_simp; first | done | with_reducible rfl)
            simp only [Act.put, List.setIfInBounds_toArray, List.set_cons_zero, List.set_cons_succ]
            refine WL.take (v := ?tv26c93) (by rfl) ?ty26c93 ?tr26c93
            case ty26c93 => (go_simp; first | done | with_reducible rfl)
            simp only [Act.put, List.setIfInBounds_toArray, List.set_cons_zero, List.set_cons_succ]
            refine WL.take (v := ?tv27c94) (by rfl) ?ty27c94 ?tr27c94
            case ty27c94 => (go_simp; first | done | with_reducible rfl)
            simp only [Act.put, List.setIfInBounds_toArray, List.set_cons_zero, List.set_cons_succ]
            refine WL.take (v := ?tv28c95) (by rfl) ?ty28c95 ?tr28c95
            case ty28c95 => (go_simp; first | done | with_reducible rfl)
            simp only [Act.put, List.setIfInBounds_toArray, List.set_cons_zero, List.set_cons_succ]
            refine WL.take (v := ?tv29c96) (by rfl) ?ty29c96 ?tr29c96
            case ty29c96 => (go_simp; first | done | with_reducible rfl)
            simp only [Act.put, List.setIfInBounds_toArray, List.set_cons_zero, List.set_cons_succ]
            refine WL.take (v := ?tv30c97) (by rfl) ?ty30c97 ?tr30c97
            case ty30c97 => (go_simp; first | done | with_reducible rfl)
            simp only [Act.put, List.setIfInBounds_toArray, List.set_cons_zero, List.set_cons_succ]
            by_cases h31 : d1 = d2
            · have hqh31 : (d1 == d2) = true := beq_iff_eq.2 h31
              have hrh31 : (d1 != d2) = false := bne_eq_false_iff_eq.2 h31
              have Zh31 := Lib.hid h31
              clear h31
              refine WL.take (v := ?tv31c98) (by rfl) ?ty31c98 ?tr31c98
              case ty31c98 => (go_simp; first | done | with_reducible rfl)
              simp only [Act.put, List.setIfInBounds_toArray, List.set_cons_zero, List.set_cons_succ]
              refine WL.take (v := ?tv32c99) (by rfl) ?ty32c99 ?tr32c99
              case ty32c99 => (go_simp; first | done | with_reducible rfl)
              simp only [Act.put, List.setIfInBounds_toArray, List.set_cons_zero, List.set_cons_succ]
              refine WL.take (v := ?tv33c100) (by rfl) ?ty33c100 ?tr33c100
              case ty33c100 => (go_simp; first | done | with_reducible rfl)
              simp only [Act.put, List.setIfInBounds_toArray, List.set_cons_zero, List.set_cons_succ]
              refine WL.take (v := ?tv34c101) (by rfl) ?ty34c101 ?tr34c101
              case ty34c101 => (go_simp; first | done | with_reducible rfl)
              simp only [Act.put, List.setIfInBounds_toArray, List.set_cons_zero, List.set_cons_succ]
              refine WL.take (v := ?tv35c102) (by rfl) ?ty35c102 ?tr35c102
              case ty35c102 => (go_simp; first | done | with_reducible rfl)
              simp only [Act.put, List.setIfInBounds_toArray, List.set_cons_zero, List.set_cons_succ]
              refine WL.take (v := ?tv36c103) (by rfl) ?ty36c103 ?tr36c103
              case ty36c103 => (go_simp; first | done | with_reducible rfl)
              simp only [Act.put, List.setIfInBounds_toArray, List.set_cons_zero, List.set_cons_succ]
              refine WL.take (v := ?tv37c104) (by rfl) ?ty37c104 ?tr37c104
              case ty37c104 => (go_simp; first | done | with_reducible rfl)
              simp only [Act.put, List.setIfInBounds_toArray, List.set_cons_zero, List.set_cons_succ]
              by_cases h38 : key1 = key2
              · have hqh38 := str_beq_true h38
                have Zh38 := Lib.hid h38
                clear h38
                refine WL.take (v := ?tv38c105) (by rfl) ?ty38c105 ?tr38c105
                case ty38c105 => (go_simp; first | done | with_reducible rfl)
                simp only [Act.put, List.setIfInBounds_toArray, List.set_cons_zero, List.set_cons_succ]
                refine WL.take (v := ?tv39c106) (by rfl) ?ty39c106 ?tr39c106
                case ty39c106 => (go_simp; first | done | with_reducible rfl)
                simp only [Act.put, List.setIfInBounds_toArray, List.set_cons_zero, List.set_cons_succ]
                refine WL.take (v := ?tv40c107) (by rfl) ?ty40c107 ?tr40c107
                case ty40c107 => (go_simp; first | done | with_reducible rfl)
                simp only [Act.put, List.setIfInBounds_toArray, List.set_cons_zero, List.set_cons_succ]
                refine WL.take (v := ?tv41c108) (by rfl) ?ty41c108 ?tr41c108
                case ty41c108 => (go_simp; first | done | with_reducible rfl)
                simp only [Act.put, List.setIfInBounds_toArray, List.set_cons_zero, List.set_cons_succ]
                refine WL.take (v := ?tv42c109) (by rfl) ?ty42c109 ?tr42c109
                case ty42c109 => (go_simp; first | done | with_reducible rfl)
                simp only [Act.put, List.setIfInBounds_toArray, List.set_cons_zero, List.set_cons_succ]
                refine WL.take (v := ?tv43c110) (by rfl) ?ty43c110 ?tr43c110
                case ty43c110 => (go_simp; first | done | with_reducible rfl)
                simp only [Act.put, List.setIfInBounds_toArray, List.set_cons_zero, List.set_cons_succ]
                refine WL.take (v := ?tv44c111) (by rfl) ?ty44c111 ?tr44c111
                case ty44c111 => (go_simp; first | done | with_reducible rfl)
                simp only [Act.put, List.setIfInBounds_toArray, List.set_cons_zero, List.set_cons_succ]
                cases h45 : eqMe m1 m2
                · refine WL.call (by rfl) (fun K hK => ?_)
                  go_simp
                  have KM := sameMeta_any m1 m2 xa xn xc ya yn yc _ (H1.out.below hb) (J1.out.below hb)
                  rw [h45] at KM
                  simp only [MC] at KM
                  (with_reducible refine KM.mono ?_)
                  rintro e' w7 ⟨rfl, bb⟩
                  replace g2 := (bb.block _ (Array.getElem?_eq_some_iff.1 g2).1).trans g2
                  replace k2' := (bb.block _ (Array.getElem?_eq_some_iff.1 k2').1).trans k2'
                  replace hb := hb.trans (bb.mono hb.size)
                  clear bb
                  clear c0 c1 c2 c3 c4 c5 c6 c7 c8 c9 c10 c11 c12 c13 b0 b1 b2 b3 b4 b5 b6 b7 b8 b9 b10 b11 b12 b13
                  obtain ⟨⟨c0, c1, c2, c3, c4, c5, c6⟩, c7, c8, c9, c10, c11, c12, c13⟩ := cells14 g2
                  obtain ⟨⟨b0, b1, b2, b3, b4, b5, b6⟩, b7, b8, b9, b10, b11, b12, b13⟩ := cells14 k2'
                  clear KM
                  refine hK.out _ _ ?_
                  clear hK K
                  try simp only [Act.put, List.setIfInBounds_toArray, List.set_cons_zero, List.set_cons_succ]
                  refine WL.take (v := ?tv46c112) (by rfl) ?ty46c112 ?tr46c112
                  case ty46c112 => (go_simp; first | done | with_reducible rfl)
                  simp only [Act.put, List.setIfInBounds_toArray, List.set_cons_zero, List.set_cons_succ]
                  refine WL.take (v := ?tv47c113) (by rfl) ?ty47c113 ?tr47c113
                  case ty47c113 => (go_simp; first | done | with_reducible rfl)
                  simp only [Act.put, List.setIfInBounds_toArray, List.set_cons_zero, List.set_cons_succ]
                  refine WL.take (v := ?tv48c114) (by rfl) ?ty48c114 ?tr48c114
                  case ty48c114 => (go_simp; first | done | with_reducible rfl)
                  simp only [Act.put, List.setIfInBounds_toArray, List.set_cons_zero, List.set_cons_succ]
                  refine WL.skip (by rfl) ?_
                  simp only [Act.put, List.setIfInBounds_toArray, List.set_cons_zero, List.set_cons_succ]
                  refine WL.skip (by rfl) ?_
                  simp only [Act.put, List.setIfInBounds_toArray, List.set_cons_zero, List.set_cons_succ]
                  refine WL.skip (by rfl) ?_
                  simp only [Act.put, List.setIfInBounds_toArray, List.set_cons_zero, List.set_cons_succ]
                  refine WL.skip (by rfl) ?_
                  simp only [Act.put, List.setIfInBounds_toArray, List.set_cons_zero, List.set_cons_succ]
                  refine WL.skip (by rfl) ?_
                  simp only [Act.put, List.setIfInBounds_toArray, List.set_cons_zero, List.set_cons_succ]
                  refine WL.skip (by rfl) ?_
                  simp only [Act.put, List.setIfInBounds_toArray, List.set_cons_zero, List.set_cons_succ]
                  refine WL.take (v := ?tv55c115) (by rfl) ?ty55c115 ?tr55c115
                  case ty55c115 => (go_simp; first | done | with_reducible rfl)
                  simp only [Act.put, List.setIfInBounds_toArray, List.set_cons_zero, List.set_cons_succ]
                  refine WL.take (v := ?tv56c116) (by rfl) ?ty56c116 ?tr56c116
                  case ty56c116 => (go_simp; first | done | with_reducible rfl)
                  simp only [Act.put, List.setIfInBounds_toArray, List.set_cons_zero, List.set_cons_succ]
                  refine WL.skip (by rfl) ?_
                  simp only [Act.put, List.setIfInBounds_toArray, List.set_cons_zero, List.set_cons_succ]
                  refine WL.skip (by rfl) ?_
                  simp only [Act.put, List.setIfInBounds_toArray, List.set_cons_zero, List.set_cons_succ]
                  refine WL.skip (by rfl) ?_
                  simp only [Act.put, List.setIfInBounds_toArray, List.set_cons_zero, List.set_cons_succ]
                  refine WL.skip (by rfl) ?_
                  simp only [Act.put, List.setIfInBounds_toArray, List.set_cons_zero, List.set_cons_succ]
                  refine WL.skip (by rfl) ?_
                  simp only [Act.put, List.setIfInBounds_toArray, List.set_cons_zero, List.set_cons_succ]
                  refine WL.skip (by rfl) ?_
                  simp only [Act.put, List.setIfInBounds_toArray, List.set_cons_zero, List.set_cons_succ]
                  refine WL.skip (by rfl) ?_
                  simp only [Act.put, List.setIfInBounds_toArray, List.set_cons_zero, List.set_cons_succ]
                  refine WL.take (v := ?tv64c117) (by rfl) ?ty64c117 ?tr64c117
                  case ty64c117 => (go_simp; first | done | with_reducible rfl)
                  simp only [Act.put, List.setIfInBounds_toArray, List.set_cons_zero, List.set_cons_succ]
                  refine WL.done ?_
                  have hno := Lib.hid (HNO.out (fun e => by have := eqMe_iff.2 (MsR.mk.inj e).2.2.2.2.2.2.1; rw [h45] at this; cases this))
                  go_wp2
                  go_meet
                  exact ⟨true, rfl, g2, k2', hb, Lib.hid (fun _ => hno.out), Lib.hid (fun e => by cases e)⟩
                · refine WL.call (by rfl) (fun K hK => ?_)
                  go_simp
                  have KM := sameMeta_any m1 m2 xa xn xc ya yn yc _ (H1.out.below hb) (J1.out.below hb)
                  rw [h45] at KM
                  simp only [MC] at KM
                  (with_reducible refine KM.mono ?_)
                  rintro e' w7 ⟨rfl, bb⟩
                  replace g2 := (bb.block _ (Array.getElem?_eq_some_iff.1 g2).1).trans g2
                  replace k2' := (bb.block _ (Array.getElem?_eq_some_iff.1 k2').1).trans k2'
                  replace hb := hb.trans (bb.mono hb.size)
                  clear bb
                  clear c0 c1 c2 c3 c4 c5 c6 c7 c8 c9 c10 c11 c12 c13 b0 b1 b2 b3 b4 b5 b6 b7 b8 b9 b10 b11 b12 b13
                  obtain ⟨⟨c0, c1, c2, c3, c4, c5, c6⟩, c7, c8, c9, c10, c11, c12, c13⟩ := cells14 g2
                  obtain ⟨⟨b0, b1, b2, b3, b4, b5, b6⟩, b7, b8, b9, b10, b11, b12, b13⟩ := cells14 k2'
                  clear KM
                  refine hK.out _ _ ?_
                  clear hK K
                  try simp only [Act.put, List.setIfInBounds_toArray, List.set_cons_zero, List.set_cons_succ]
                  refine WL.take (v := ?tv46c118) (by rfl) ?ty46c118 ?tr46c118
                  case ty46c118 => (go_simp; first | done | with_reducible rfl)
                  simp only [Act.put, List.setIfInBounds_toArray, List.set_cons_zero, List.set_cons_succ]
                  refine WL.take (v := ?tv47c119) (by rfl) ?ty47c119 ?tr47c119
                  case ty47c119 => (go_simp; first | done | with_reducible rfl)
                  simp only [Act.put, List.setIfInBounds_toArray, List.set_cons_zero, List.set_cons_succ]
                  refine WL.take (v := ?tv48c120) (by rfl) ?ty48c120 ?tr48c120
                  case ty48c120 => (go_simp; first | done | with_reducible rfl)
                  simp only [Act.put, List.setIfInBounds_toArray, List.set_cons_zero, List.set_cons_succ]
                  refine WL.take (v := ?tv49c121) (by rfl) ?ty49c121 ?tr49c121
                  case ty49c121 => (go_simp; first | done | with_reducible rfl)
                  simp only [Act.put, List.setIfInBounds_toArray, List.set_cons_zero, List.set_cons_succ]
                  refine WL.take (v := ?tv50c122) (by rfl) ?ty50c122 ?tr50c122
                  case ty50c122 => (go_simp; first | done | with_reducible rfl)
                  simp only [Act.put, List.setIfInBounds_toArray, List.set_cons_zero, List.set_cons_succ]
                  refine WL.take (v := ?tv51c123) (by rfl) ?ty51c123 ?tr51c123
                  case ty51c123 => (go_simp; first | done | with_reducible rfl)
                  simp only [Act.put, List.setIfInBounds_toArray, List.set_cons_zero, List.set_cons_succ]
                  refine WL.take (v := ?tv52c124) (by rfl) ?ty52c124 ?tr52c124
                  case ty52c124 => (go_simp; first | done | with_reducible rfl)
                  simp only [Act.put, List.setIfInBounds_toArray, List.set_cons_zero, List.set_cons_succ]
                  cases h53 : decide (s1 = s2)
                  · refine WL.call (by rfl) (fun K hK => ?_)
                    go_simp
                    have KS := sameSyms_rd sa S1 sc s1 ta S2 tc s2 _ (H2.out.below hb) (J2.out.below hb) (by omega)
                    rw [h53] at KS
                    (with_reducible refine KS.mono ?_)
                    rintro e' w8 ⟨rfl, bb⟩
                    replace g2 := (bb.block _ (Array.getElem?_eq_some_iff.1 g2).1).trans g2
                    replace k2' := (bb.block _ (Array.getElem?_eq_some_iff.1 k2').1).trans k2'
                    replace hb := hb.trans (bb.mono hb.size)
                    clear bb
                    clear c0 c1 c2 c3 c4 c5 c6 c7 c8 c9 c10 c11 c12 c13 b0 b1 b2 b3 b4 b5 b6 b7 b8 b9 b10 b11 b12 b13
                    obtain ⟨⟨c0, c1, c2, c3, c4, c5, c6⟩, c7, c8, c9, c10, c11, c12, c13⟩ := cells14 g2
                    obtain ⟨⟨b0, b1, b2, b3, b4, b5, b6⟩, b7, b8, b9, b10, b11, b12, b13⟩ := cells14 k2'
                    clear KS
                    refine hK.out _ _ ?_
                    clear hK K
                    try simp only [Act.put, List.setIfInBounds_toArray, List.set_cons_zero, List.set_cons_succ]
                    refine WL.take (v := ?tv54c125) (by rfl) ?ty54c125 ?tr54c125
                    case ty54c125 => (go_simp; first | done | with_reducible rfl)
                    simp only [Act.put, List.setIfInBounds_toArray, List.set_cons_zero, List.set_cons_succ]
                    refine WL.take (v := ?tv55c126) (by rfl) ?ty55c126 ?tr55c126
                    case ty55c126 => (go_simp; first | done | with_reducible rfl)
                    simp only [Act.put, List.setIfInBounds_toArray, List.set_cons_zero, List.set_cons_succ]
                    refine WL.take (v := ?tv56c127) (by rfl) ?ty56c127 ?tr56c127
                    case ty56c127 => (go_simp; first | done | with_reducible rfl)
                    simp only [Act.put, List.setIfInBounds_toArray, List.set_cons_zero, List.set_cons_succ]
                    refine WL.skip (by rfl) ?_
                    simp only [Act.put, List.setIfInBounds_toArray, List.set_cons_zero, List.set_cons_succ]
                    refine WL.skip (by rfl) ?_
                    simp only [Act.put, List.setIfInBounds_toArray, List.set_cons_zero, List.set_cons_succ]
                    refine WL.skip (by rfl) ?_
                    simp only [Act.put, List.setIfInBounds_toArray, List.set_cons_zero, List.set_cons_succ]
                    refine WL.skip (by rfl) ?_
                    simp only [Act.put, List.setIfInBounds_toArray, List.set_cons_zero, List.set_cons_succ]
                    refine WL.skip (by rfl) ?_
                    simp only [Act.put, List.setIfInBounds_toArray, List.set_cons_zero, List.set_cons_succ]
                    refine WL.skip (by rfl) ?_
                    simp only [Act.put, List.setIfInBounds_toArray, List.set_cons_zero, List.set_cons_succ]
                    refine WL.skip (by rfl) ?_
                    simp only [Act.put, List.setIfInBounds_toArray, List.set_cons_zero, List.set_cons_succ]
                    refine WL.take (v := ?tv64c128) (by rfl) ?ty64c128 ?tr64c128
                    case ty64c128 => (go_simp; first | done | with_reducible rfl)
                    simp only [Act.put, List.setIfInBounds_toArray, List.set_cons_zero, List.set_cons_succ]
                    refine WL.done ?_
                    have hno := Lib.hid (HNO.out (fun e => of_decide_eq_false h53 (MsR.mk.inj e).2.2.2.2.2.2.2.1))
                    go_wp2
                    go_meet
                    exact ⟨true, rfl, g2, k2', hb, Lib.hid (fun _ => hno.out), Lib.hid (fun e => by cases e)⟩
                  · refine WL.call (by rfl) (fun K hK => ?_)
                    go_simp
                    have KS := sameSyms_rd sa S1 sc s1 ta S2 tc s2 _ (H2.out.below hb) (J2.out.below hb) (by omega)
                    rw [h53] at KS
                    (with_reducible refine KS.mono ?_)
                    rintro e' w8 ⟨rfl, bb⟩
                    replace g2 := (bb.block _ (Array.getElem?_eq_some_iff.1 g2).1).trans g2
                    replace k2' := (bb.block _ (Array.getElem?_eq_some_iff.1 k2').1).trans k2'
                    replace hb := hb.trans (bb.mono hb.size)
                    clear bb
                    clear c0 c1 c2 c3 c4 c5 c6 c7 c8 c9 c10 c11 c12 c13 b0 b1 b2 b3 b4 b5 b6 b7 b8 b9 b10 b11 b12 b13
                    obtain ⟨⟨c0, c1, c2, c3, c4, c5, c6⟩, c7, c8, c9, c10, c11, c12, c13⟩ := cells14 g2
                    obtain ⟨⟨b0, b1, b2, b3, b4, b5, b6⟩, b7, b8, b9, b10, b11, b12, b13⟩ := cells14 k2'
                    clear KS
                    refine hK.out _ _ ?_
                    clear hK K
                    try simp only [Act.put, List.setIfInBounds_toArray, List.set_cons_zero, List.set_cons_succ]
                    refine WL.take (v := ?tv54c129) (by rfl) ?ty54c129 ?tr54c129
                    case ty54c129 => (go_simp; first | done | with_reducible rfl)
                    simp only [Act.put, List.setIfInBounds_toArray, List.set_cons_zero, List.set_cons_succ]
                    refine WL.take (v := ?tv55c130) (by rfl) ?ty55c130 ?tr55c130
                    case ty55c130 => (go_simp; first | done | with_reducible rfl)
                    simp only [Act.put, List.setIfInBounds_toArray, List.set_cons_zero, List.set_cons_succ]
                    refine WL.take (v := ?tv56c131) (by rfl) ?ty56c131 ?tr56c131
                    case ty56c131 => (go_simp; first | done | with_reducible rfl)
                    simp only [Act.put, List.setIfInBounds_toArray, List.set_cons_zero, List.set_cons_succ]
                    refine WL.take (v := ?tv57c132) (by rfl) ?ty57c132 ?tr57c132
                    case ty57c132 => (go_simp; first | done | with_reducible rfl)
                    simp only [Act.put, List.setIfInBounds_toArray, List.set_cons_zero, List.set_cons_succ]
                    refine WL.take (v := ?tv58c133) (by rfl) ?ty58c133 ?tr58c133
                    case ty58c133 => (go_simp; first | done | with_reducible rfl)
                    simp only [Act.put, List.setIfInBounds_toArray, List.set_cons_zero, List.set_cons_succ]
                    refine WL.take (v := ?tv59c134) (by rfl) ?ty59c134 ?tr59c134
                    case ty59c134 => (go_simp; first | done | with_reducible rfl)
                    simp only [Act.put, List.setIfInBounds_toArray, List.set_cons_zero, List.set_cons_succ]
                    refine WL.take (v := ?tv60c135) (by rfl) ?ty60c135 ?tr60c135
                    case ty60c135 => (go_simp; first | done | with_reducible rfl)
                    simp only [Act.put, List.setIfInBounds_toArray, List.set_cons_zero, List.set_cons_succ]
                    refine WL.take (v := ?tv61c136) (by rfl) ?ty61c136 ?tr61c136
                    case ty61c136 => (go_simp; first | done | with_reducible rfl)
                    simp only [Act.put, List.setIfInBounds_toArray, List.set_cons_zero, List.set_cons_succ]
                    refine WL.take (v := ?tv62c137) (by rfl) ?ty62c137 ?tr62c137
                    case ty62c137 => (go_simp; first | done | with_reducible rfl)
                    simp only [Act.put, List.setIfInBounds_toArray, List.set_cons_zero, List.set_cons_succ]
                    by_cases h63 : (I1 : Int) = (I2 : Int)
                    · have hqh63 : ((I1 : Int) == (I2 : Int)) = true := beq_iff_eq.2 h63
                      have hrh63 : ((I1 : Int) != (I2 : Int)) = false := bne_eq_false_iff_eq.2 h63
                      have Zh63 := Lib.hid h63
                      clear h63
                      refine WL.take (v := ?tv63c138) (by rfl) ?ty63c138 ?tr63c138
                      case ty63c138 => (go_simp; first | done | with_reducible rfl)
                      simp only [Act.put, List.setIfInBounds_toArray, List.set_cons_zero, List.set_cons_succ]
                      refine WL.take (v := ?tv64c139) (by rfl) ?ty64c139 ?tr64c139
                      case ty64c139 => (go_simp; first | done | with_reducible rfl)
                      simp only [Act.put, List.setIfInBounds_toArray, List.set_cons_zero, List.set_cons_succ]
                      refine WL.done ?_
                      have hm12 := Lib.hid (eqMe_iff.1 h45)
                      have hs12 := Lib.hid (of_decide_eq_true h53)
                      go_wp2
                      go_meet
                      exact ⟨false, rfl, g2, k2', hb, Lib.hid (fun e => by cases e), Lib.hid (fun _ => ⟨Zh4.out, Zh10.out, Zh17.out, Zh24.out, Zh31.out, Zh38.out, hm12.out, hs12.out, by have := Zh63.out; omega⟩)⟩
                    · have hqh63 : ((I1 : Int) == (I2 : Int)) = false := beq_eq_false_iff_ne.2 h63
                      have hrh63 : ((I1 : Int) != (I2 : Int)) = true := bne_iff_ne.2 h63
                      refine WL.take (v := ?tv63c140) (by rfl) ?ty63c140 ?tr63c140
                      case ty63c140 => (go_simp; first | done | with_reducible rfl)
                      simp only [Act.put, List.setIfInBounds_toArray, List.set_cons_zero, List.set_cons_succ]
                      refine WL.take (v := ?tv64c141) (by rfl) ?ty64c141 ?tr64c141
                      case ty64c141 => (go_simp; first | done | with_reducible rfl)
                      simp only [Act.put, List.setIfInBounds_toArray, List.set_cons_zero, List.set_cons_succ]
                      refine WL.done ?_
                      have hno := Lib.hid (HNO.out (fun e => h63 (by rw [HI1.out, HI2.out, (MsR.mk.inj e).2.2.2.2.2.2.2.2])))
                      go_wp2
                      go_meet
                      exact ⟨true, rfl, g2, k2', hb, Lib.hid (fun _ => hno.out), Lib.hid (fun e => by cases e)⟩
              · have hqh38 := str_beq_false h38
                refine WL.take (v := ?tv38c142) (by rfl) ?ty38c142 ?tr38c142
                case ty38c142 => (go_simp; first | done | with_reducible rfl)
                simp only [Act.put, List.setIfInBounds_toArray, List.set_cons_zero, List.set_cons_succ]
                refine WL.take (v := ?tv39c143) (by rfl) ?ty39c143 ?tr39c143
                case ty39c143 => (go_simp; first | done | with_reducible rfl)
                simp only [Act.put, List.setIfInBounds_toArray, List.set_cons_zero, List.set_cons_succ]
                refine WL.take (v := ?tv40c144) (by rfl) ?ty40c144 ?tr40c144
                case ty40c144 => (go_simp; first | done | with_reducible rfl)
                simp only [Act.put, List.setIfInBounds_toArray, List.set_cons_zero, List.set_cons_succ]
                refine WL.skip (by rfl) ?_
                simp only [Act.put, List.setIfInBounds_toArray, List.set_cons_zero, List.set_cons_succ]
                refine WL.skip (by rfl) ?_
                simp only [Act.put, List.setIfInBounds_toArray, List.set_cons_zero, List.set_cons_succ]
                refine WL.skip (by rfl) ?_
                simp only [Act.put, List.setIfInBounds_toArray, List.set_cons_zero, List.set_cons_succ]
                refine WL.skip (by rfl) ?_
                simp only [Act.put, List.setIfInBounds_toArray, List.set_cons_zero, List.set_cons_succ]
                refine WL.skip (by rfl) ?_
                simp only [Act.put, List.setIfInBounds_toArray, List.set_cons_zero, List.set_cons_succ]
                refine WL.skip (by rfl) ?_
                simp only [Act.put, List.setIfInBounds_toArray, List.set_cons_zero, List.set_cons_succ]
                refine WL.take (v := ?tv47c145) (by rfl) ?ty47c145 ?tr47c145
                case ty47c145 => (go_simp; first | done | with_reducible rfl)
                simp only [Act.put, List.setIfInBounds_toArray, List.set_cons_zero, List.set_cons_succ]
                refine WL.take (v := ?tv48c146) (by rfl) ?ty48c146 ?tr48c146
                case ty48c146 => (go_simp; first | done | with_reducible rfl)
                simp only [Act.put, List.setIfInBounds_toArray, List.set_cons_zero, List.set_cons_succ]
                refine WL.skip (by rfl) ?_
                simp only [Act.put, List.setIfInBounds_toArray, List.set_cons_zero, List.set_cons_succ]
                refine WL.skip (by rfl) ?_
                simp only [Act.put, List.setIfInBounds_toArray, List.set_cons_zero, List.set_cons_succ]
                refine WL.skip (by rfl) ?_
                simp only [Act.put, List.setIfInBounds_toArray, List.set_cons_zero, List.set_cons_succ]
                refine WL.skip (by rfl) ?_
                simp only [Act.put, List.setIfInBounds_toArray, List.set_cons_zero, List.set_cons_succ]
                refine WL.skip (by rfl) ?_
                simp only [Act.put, List.setIfInBounds_toArray, List.set_cons_zero, List.set_cons_succ]
                refine WL.skip (by rfl) ?_
                simp only [Act.put, List.setIfInBounds_toArray, List.set_cons_zero, List.set_cons_succ]
                refine WL.take (v := ?tv55c147) (by rfl) ?ty55c147 ?tr55c147
                case ty55c147 => (go_simp; first | done | with_reducible rfl)
                simp only [Act.put, List.setIfInBounds_toArray, List.set_cons_zero, List.set_cons_succ]
                refine WL.take (v := ?tv56c148) (by rfl) ?ty56c148 ?tr56c148
                case ty56c148 => (go_simp; first | done | with_reducible rfl)
                simp only [Act.put, List.setIfInBounds_toArray, List.set_cons_zero, List.set_cons_succ]
                refine WL.skip (by rfl) ?_
                simp only [Act.put, List.setIfInBounds_toArray, List.set_cons_zero, List.set_cons_succ]
                refine WL.skip (by rfl) ?_
                simp only [Act.put, List.setIfInBounds_toArray, List.set_cons_zero, List.set_cons_succ]
                refine WL.skip (by rfl) ?_
                simp only [Act.put, List.setIfInBounds_toArray, List.set_cons_zero, List.set_cons_succ]
                refine WL.skip (by rfl) ?_
                simp only [Act.put, List.setIfInBounds_toArray, List.set_cons_zero, List.set_cons_succ]
                refine WL.skip (by rfl) ?_
                simp only [Act.put, List.setIfInBounds_toArray, List.set_cons_zero, List.set_cons_succ]
                refine WL.skip (by rfl) ?_
                simp only [Act.put, List.setIfInBounds_toArray, List.set_cons_zero, List.set_cons_succ]
                refine WL.skip (by rfl) ?_
                simp only [Act.put, List.setIfInBounds_toArray, List.set_cons_zero, List.set_cons_succ]
                refine WL.take (v := ?tv64c149) (by rfl) ?ty64c149 ?tr64c149
                case ty64c149 => (go_simp; first | done | with_reducible rfl)
                simp only [Act.put, List.setIfInBounds_toArray, List.set_cons_zero, List.set_cons_succ]
                refine WL.done ?_
                have hno := Lib.hid (HNO.out (fun e => h38 (MsR.mk.inj e).2.2.2.2.2.1))
                go_wp2
                go_meet
                exact ⟨true, rfl, g2, k2', hb, Lib.hid (fun _ => hno.out), Lib.hid (fun e => by cases e)⟩
            · have hqh31 : (d1 == d2) = false := beq_eq_false_iff_ne.2 h31
              have hrh31 : (d1 != d2) = true := bne_iff_ne.2 h31
              refine WL.take (v := ?tv31c150) (by rfl) ?ty31c150 ?tr31c150
              case ty31c150 => (go_simp; first | done | with_reducible rfl)
              simp only [Act.put, List.setIfInBounds_toArray, List.set_cons_zero, List.set_cons_succ]
              refine WL.take (v := ?tv32c151) (by rfl) ?ty32c151 ?tr32c151
              case ty32c151 => (go_simp; first | done | with_reducible rfl)
              simp only [Act.put, List.setIfInBounds_toArray, List.set_cons_zero, List.set_cons_succ]
              refine WL.take (v := ?tv33c152) (by rfl) ?ty33c152 ?tr33c152
              case ty33c152 => (go_simp; first | done | with_reducible rfl)
              simp only [Act.put, List.setIfInBounds_toArray, List.set_cons_zero, List.set_cons_succ]
              refine WL.skip (by rfl) ?_
              simp only [Act.put, List.setIfInBounds_toArray, List.set_cons_zero, List.set_cons_succ]
              refine WL.skip (by rfl) ?_
              simp only [Act.put, List.setIfInBounds_toArray, List.set_cons_zero, List.set_cons_succ]
              refine WL.skip (by rfl) ?_
              simp only [Act.put, List.setIfInBounds_toArray, List.set_cons_zero, List.set_cons_succ]
              refine WL.skip (by rfl) ?_
              simp only [Act.put, List.setIfInBounds_toArray, List.set_cons_zero, List.set_cons_succ]
              refine WL.skip (by rfl) ?_
              simp only [Act.put, List.setIfInBounds_toArray, List.set_cons_zero, List.set_cons_succ]
              refine WL.take (v := ?tv39c153) (by rfl) ?ty39c153 ?tr39c153
              case ty39c153 => (go_simp; first | done | with_reducible rfl)
              simp only [Act.put, List.setIfInBounds_toArray, List.set_cons_zero, List.set_cons_succ]
              refine WL.take (v := ?tv40c154) (by rfl) ?ty40c154 ?tr40c154
              case ty40c154 => (go_simp; first | done | with_reducible rfl)
              simp only [Act.put, List.setIfInBounds_toArray, List.set_cons_zero, List.set_cons_succ]
              refine WL.skip (by rfl) ?_
              simp only [Act.put, List.setIfInBounds_toArray, List.set_cons_zero, List.set_cons_succ]
              refine WL.skip (by rfl) ?_
              simp only [Act.put, List.setIfInBounds_toArray, List.set_cons_zero, List.set_cons_succ]
              refine WL.skip (by rfl) ?_
              simp only [Act.put, List.setIfInBounds_toArray, List.set_cons_zero, List.set_cons_succ]
              refine WL.skip (by rfl) ?_
              simp only [Act.put, List.setIfInBounds_toArray, List.set_cons_zero, List.set_cons_succ]
              refine WL.skip (by rfl) ?_
              simp only [Act.put, List.setIfInBounds_toArray, List.set_cons_zero, List.set_cons_succ]
              refine WL.skip (by rfl) ?_
              simp only [Act.put, List.setIfInBounds_toArray, List.set_cons_zero, List.set_cons_succ]
              refine WL.take (v := ?tv47c155) (by rfl) ?ty47c155 ?tr47c155
              case ty47c155 => (go_simp; first | done | with_reducible rfl)
              simp only [Act.put, List.setIfInBounds_toArray, List.set_cons_zero, List.set_cons_succ]
              refine WL.take (v := ?tv48c156) (by rfl) ?ty48c156 ?tr48c156
              case ty48c156 => (go_simp; first | done | with_reducible rfl)
              simp only [Act.put, List.setIfInBounds_toArray, List.set_cons_zero, List.set_cons_succ]
              refine WL.skip (by rfl) ?_
              simp only [Act.put, List.setIfInBounds_toArray, List.set_cons_zero, List.set_cons_succ]
              refine WL.skip (by rfl) ?_
              simp only [Act.put, List.setIfInBounds_toArray, List.set_cons_zero, List.set_cons_succ]
              refine WL.skip (by rfl) ?_
              simp only [Act.put, List.setIfInBounds_toArray, List.set_cons_zero, List.set_cons_succ]
              refine WL.skip (by rfl) ?_
              simp only [Act.put, List.setIfInBounds_toArray, List.set_cons_zero, List.set_cons_succ]
              refine WL.skip (by rfl) ?_
              simp only [Act.put, List.setIfInBounds_toArray, List.set_cons_zero, List.set_cons_succ]
              refine WL.skip (by rfl) ?_
              simp only [Act.put, List.setIfInBounds_toArray, List.set_cons_zero, List.set_cons_succ]
              refine WL.take (v := ?tv55c157) (by rfl) ?ty55c157 ?tr55c157
              case ty55c157 => (go_simp; first | done | with_reducible rfl)
              simp only [Act.put, List.setIfInBounds_toArray, List.set_cons_zero, List.set_cons_succ]
              refine WL.take (v := ?tv56c158) (by rfl) ?ty56c158 ?tr56c158
              case ty56c158 => (go_simp; first | done | with_reducible rfl)
              simp only [Act.put, List.setIfInBounds_toArray, List.set_cons_zero, List.set_cons_succ]
              refine WL.skip (by rfl) ?_
              simp only [Act.put, List.setIfInBounds_toArray, List.set_cons_zero, List.set_cons_succ]
              refine WL.skip (by rfl) ?_
              simp only [Act.put, List.setIfInBounds_toArray, List.set_cons_zero, List.set_cons_succ]
              refine WL.skip (by rfl) ?_
              simp only [Act.put, List.setIfInBounds_toArray, List.set_cons_zero, List.set_cons_succ]
              refine WL.skip (by rfl) ?_
              simp only [Act.put, List.setIfInBounds_toArray, List.set_cons_zero, List.set_cons_succ]
              refine WL.skip (by rfl) ?_
              simp only [Act.put, List.setIfInBounds_toArray, List.set_cons_zero, List.set_cons_succ]
              refine WL.skip (by rfl) ?_
              simp only [Act.put, List.setIfInBounds_toArray, List.set_cons_zero, List.set_cons_succ]
              refine WL.skip (by rfl) ?_
              simp only [Act.put, List.setIfInBounds_toArray, List.set_cons_zero, List.set_cons_succ]
              refine WL.take (v := ?tv64c159) (by rfl) ?ty64c159 ?tr64c159
              case ty64c159 => (go_simp; first | done | with_reducible rfl)
              simp only [Act.put, List.setIfInBounds_toArray, List.set_cons_zero, List.set_cons_succ]
              refine WL.done ?_
              have hno := Lib.hid (HNO.out (fun e => h31 (MsR.mk.inj e).2.2.2.2.1))
              go_wp2
              go_meet
              exact ⟨true, rfl, g2, k2', hb, Lib.hid (fun _ => hno.out), Lib.hid (fun e => by cases e)⟩
          · have hqh24 : (o1 == o2) = false := beq_eq_false_iff_ne.2 h24
            have hrh24 : (o1 != o2) = true := bne_iff_ne.2 h24
            refine WL.take (v := ?tv24c160) (by rfl) ?ty24c160 ?tr24c160
            case ty24c160 => (go_simp; first | done | with_reducible rfl)
            simp only [Act.put, List.setIfInBounds_toArray, List.set_cons_zero, List.set_cons_succ]
            refine WL.take (v := ?tv25c161) (by rfl) ?ty25c161 ?tr25c161
            case ty25c161 => (go_simp; first | done | with_reducible rfl)
            simp only [Act.put, List.setIfInBounds_toArray, List.set_cons_zero, List.set_cons_succ]
            refine WL.take (v := ?tv26c162) (by rfl) ?ty26c162 ?tr26c162
            case ty26c162 => (go_simp; first | done | with_reducible rfl)
            simp only [Act.put, List.setIfInBounds_toArray, List.set_cons_zero, List.set_cons_succ]
            refine WL.skip (by rfl) ?_
            simp only [Act.put, List.setIfInBounds_toArray, List.set_cons_zero, List.set_cons_succ]
            refine WL.skip (by rfl) ?_
            simp only [Act.put, List.setIfInBounds_toArray, List.set_cons_zero, List.set_cons_succ]
            refine WL.skip (by rfl) ?_
            simp only [Act.put, List.setIfInBounds_toArray, List.set_cons_zero, List.set_cons_succ]
            refine WL.skip (by rfl) ?_
            simp only [Act.put, List.setIfInBounds_toArray, List.set_cons_zero, List.set_cons_succ]
            refine WL.skip (by rfl) ?_
            simp only [Act.put, List.setIfInBounds_toArray, List.set_cons_zero, List.set_cons_succ]
            refine WL.take (v := ?tv32c163) (by rfl) ?ty32c163 ?tr32c163
            case ty32c163 => (go_simp; first | done | with_reducible rfl)
            simp only [Act.put, List.setIfInBounds_toArray, List.set_cons_zero, List.set_cons_succ]
            refine WL.take (v := ?tv33c164) (by rfl) ?ty33c164 ?tr33c164
            case ty33c164 => (go_simp; first | done | with_reducible rfl)
            simp only [Act.put, List.setIfInBounds_toArray, List.set_cons_zero, List.set_cons_succ]
            refine WL.skip (by rfl) ?_
            simp only [Act.put, List.setIfInBounds_toArray, List.set_cons_zero, List.set_cons_succ]
            refine WL.skip (by rfl) ?_
            simp only [Act.put, List.setIfInBounds_toArray, List.set_cons_zero, List.set_cons_succ]
            refine WL.skip (by rfl) ?_
            simp only [Act.put, List.setIfInBounds_toArray, List.set_cons_zero, List.set_cons_succ]
            refine WL.skip (by rfl) ?_
            simp only [Act.put, List.setIfInBounds_toArray, List.set_cons_zero, List.set_cons_succ]
            refine WL.skip (by rfl) ?_
            simp only [Act.put, List.setIfInBounds_toArray, List.set_cons_zero, List.set_cons_succ]
            refine WL.take (v := ?tv39c165) (by rfl) ?ty39c165 ?tr39c165
            case ty39c165 => (go_simp; first | done | with_reducible rfl)
            simp only [Act.put, List.setIfInBounds_toArray, List.set_cons_zero, List.set_cons_succ]
            refine WL.take (v := ?tv40c166) (by rfl) ?ty40c166 ?tr40c166
            case ty40c166 => (go_simp; first | done | with_reducible rfl)
            simp only [Act.put, List.setIfInBounds_toArray, List.set_cons_zero, List.set_cons_succ]
            refine WL.skip (by rfl) ?_
            simp only [Act.put, List.setIfInBounds_toArray, List.set_cons_zero, List.set_cons_succ]
            refine WL.skip (by rfl) ?_
            simp only [Act.put, List.setIfInBounds_toArray, List.set_cons_zero, List.set_cons_succ]
            refine WL.skip (by rfl) ?_
            simp only [Act.put, List.setIfInBounds_toArray, List.set_cons_zero, List.set_cons_succ]
            refine WL.skip (by rfl) ?_
            simp only [Act.put, List.setIfInBounds_toArray, List.set_cons_zero, List.set_cons_succ]
            refine WL.skip (by rfl) ?_
            simp only [Act.put, List.setIfInBounds_toArray, List.set_cons_zero, List.set_cons_succ]
            refine WL.skip (by rfl) ?_
            simp only [Act.put, List.setIfInBounds_toArray, List.set_cons_zero, List.set_cons_succ]
            refine WL.take (v := ?tv47c167) (by rfl) ?ty47c167 ?tr47c167
            case ty47c167 => (go_simp; first | done | with_reducible rfl)
            simp only [Act.put, List.setIfInBounds_toArray, List.set_cons_zero, List.set_cons_succ]
            refine WL.take (v := ?tv48c168) (by rfl) ?ty48c168 ?tr48c168
            case ty48c168 => (go_simp; first | done | with_reducible rfl)
            simp only [Act.put, List.setIfInBounds_toArray, List.set_cons_zero, List.set_cons_succ]
            refine WL.skip (by rfl) ?_
            simp only [Act.put, List.setIfInBounds_toArray, List.set_cons_zero, List.set_cons_succ]
            refine WL.skip (by rfl) ?_
            simp only [Act.put, List.setIfInBounds_toArray, List.set_cons_zero, List.set_cons_succ]
            refine WL.skip (by rfl) ?_
            simp only [Act.put, List.setIfInBounds_toArray, List.set_cons_zero, List.set_cons_succ]
            refine WL.skip (by rfl) ?_
            simp only [Act.put, List.setIfInBounds_toArray, List.set_cons_zero, List.set_cons_succ]
            refine WL.skip (by rfl) ?_
            simp only [Act.put, List.setIfInBounds_toArray, List.set_cons_zero, List.set_cons_succ]
            refine WL.skip (by rfl) ?_
            simp only [Act.put, List.setIfInBounds_toArray, List.set_cons_zero, List.set_cons_succ]
            refine WL.take (v := ?tv55c169) (by rfl) ?ty55c169 ?tr55c169
            case ty55c169 => (go_simp; first | done | with_reducible rfl)
            simp only [Act.put, List.setIfInBounds_toArray, List.set_cons_zero, List.set_cons_succ]
            refine WL.take (v := ?tv56c170) (by rfl) ?ty56c170 ?tr56c170
            case ty56c170 => (go_simp; first | done | with_reducible rfl)
            simp only [Act.put, List.setIfInBounds_toArray, List.set_cons_zero, List.set_cons_succ]
            refine WL.skip (by rfl) ?_
            simp only [Act.put, List.setIfInBounds_toArray, List.set_cons_zero, List.set_cons_succ]
            refine WL.skip (by rfl) ?_
            simp only [Act.put, List.setIfInBounds_toArray, List.set_cons_zero, List.set_cons_succ]
            refine WL.skip (by rfl) ?_
            simp only [Act.put, List.setIfInBounds_toArray, List.set_cons_zero, List.set_cons_succ]
            refine WL.skip (by rfl) ?_
            simp only [Act.put, List.setIfInBounds_toArray, List.set_cons_zero, List.set_cons_succ]
            refine WL.skip (by rfl) ?_
            simp only [Act.put, List.setIfInBounds_toArray, List.set_cons_zero, List.set_cons_succ]
            refine WL.skip (by rfl) ?_
            simp only [Act.put, List.setIfInBounds_toArray, List.set_cons_zero, List.set_cons_succ]
            refine WL.skip (by rfl) ?_
            simp only [Act.put, List.setIfInBounds_toArray, List.set_cons_zero, List.set_cons_succ]
            refine WL.take (v := ?tv64c171) (by rfl) ?ty64c171 ?tr64c171
            case ty64c171 => (go_simp; first | done | with_reducible rfl)
            simp only [Act.put, List.setIfInBounds_toArray, List.set_cons_zero, List.set_cons_succ]
            refine WL.done ?_
            have hno := Lib.hid (HNO.out (fun e => h24 (MsR.mk.inj e).2.2.2.1))
            go_wp2
            go_meet
            exact ⟨true, rfl, g2, k2', hb, Lib.hid (fun _ => hno.out), Lib.hid (fun e => by cases e)⟩
        · have hqh17 : (t1 == t2) = false := beq_eq_false_iff_ne.2 h17
          have hrh17 : (t1 != t2) = true := bne_iff_ne.2 h17
          refine WL.take (v := ?tv17c172) (by rfl) ?ty17c172 ?tr17c172
          case ty17c172 => (go_simp; first | done | with_reducible rfl)
          simp only [Act.put, List.setIfInBounds_toArray, List.set_cons_zero, List.set_cons_succ]
          refine WL.take (v := ?tv18c173) (by rfl) ?ty18c173 ?tr18c173
          case ty18c173 => (go_simp; first | done | with_reducible rfl)
          simp only [Act.put, List.setIfInBounds_toArray, List.set_cons_zero, List.set_cons_succ]
          refine WL.take (v := ?tv19c174) (by rfl) ?ty19c174 ?tr19c174
          case ty19c174 => (go_simp; first | done | with_reducible rfl)
          simp only [Act.put, List.setIfInBounds_toArray, List.set_cons_zero, List.set_cons_succ]
          refine WL.skip (by rfl) ?_
          simp only [Act.put, List.setIfInBounds_toArray, List.set_cons_zero, List.set_cons_succ]
          refine WL.skip (by rfl) ?_
          simp only [Act.put, List.setIfInBounds_toArray, List.set_cons_zero, List.set_cons_succ]
          refine WL.skip (by rfl) ?_
          simp only [Act.put, List.setIfInBounds_toArray, List.set_cons_zero, List.set_cons_succ]
          refine WL.skip (by rfl) ?_
          simp only [Act.put, List.setIfInBounds_toArray, List.set_cons_zero, List.set_cons_succ]
          refine WL.skip (by rfl) ?_
          simp only [Act.put, List.setIfInBounds_toArray, List.set_cons_zero, List.set_cons_succ]
          refine WL.take (v := ?tv25c175) (by rfl) ?ty25c175 ?tr25c175
          case ty25c175 => (go_simp; first | done | with_reducible rfl)
          simp only [Act.put, List.setIfInBounds_toArray, List.set_cons_zero, List.set_cons_succ]
          refine WL.take (v := ?tv26c176) (by rfl) ?ty26c176 ?tr26c176
          case ty26c176 => (go_simp; first | done | with_reducible rfl)
          simp only [Act.put, List.setIfInBounds_toArray, List.set_cons_zero, List.set_cons_succ]
          refine WL.skip (by rfl) ?_
          simp only [Act.put, List.setIfInBounds_toArray, List.set_cons_zero, List.set_cons_succ]
          refine WL.skip (by rfl) ?_
          simp only [Act.put, List.setIfInBounds_toArray, List.set_cons_zero, List.set_cons_succ]
          refine WL.skip (by rfl) ?_
          simp only [Act.put, List.setIfInBounds_toArray, List.set_cons_zero, List.set_cons_succ]
          refine WL.skip (by rfl) ?_
          simp only [Act.put, List.setIfInBounds_toArray, List.set_cons_zero, List.set_cons_succ]
          refine WL.skip (by rfl) ?_
          simp only [Act.put, List.setIfInBounds_toArray, List.set_cons_zero, List.set_cons_succ]
          refine WL.take (v := ?tv32c177) (by rfl) ?ty32c177 ?tr32c177
          case ty32c177 => (go_simp; first | done | with_reducible rfl)
          simp only [Act.put, List.setIfInBounds_toArray, List.set_cons_zero, List.set_cons_succ]
          refine WL.take (v := ?tv33c178) (by rfl) ?ty33c178 ?tr33c178
          case ty33c178 => (go_simp; first | done | with_reducible rfl)
          simp only [Act.put, List.setIfInBounds_toArray, List.set_cons_zero, List.set_cons_succ]
          refine WL.skip (by rfl) ?_
          simp only [Act.put, List.setIfInBounds_toArray, List.set_cons_zero, List.set_cons_succ]
          refine WL.skip (by rfl) ?_
          simp only [Act.put, List.setIfInBounds_toArray, List.set_cons_zero, List.set_cons_succ]
          refine WL.skip (by rfl) ?_
          simp only [Act.put, List.setIfInBounds_toArray, List.set_cons_zero, List.set_cons_succ]
          refine WL.skip (by rfl) ?_
          simp only [Act.put, List.setIfInBounds_toArray, List.set_cons_zero, List.set_cons_succ]
          refine WL.skip (by rfl) ?_
          simp only [Act.put, List.setIfInBounds_toArray, List.set_cons_zero, List.set_cons_succ]
          refine WL.take (v := ?tv39c179) (by rfl) ?ty39c179 ?tr39c179
          case ty39c179 => (go_simp; first | done | with_reducible rfl)
          simp only [Act.put, List.setIfInBounds_toArray, List.set_cons_zero, List.set_cons_succ]
          refine WL.take (v := ?tv40c180) (by rfl) ?ty40c180 ?tr40c180
          case ty40c180 => (go_simp; first | done | with_reducible rfl)
          simp only [Act.put, List.setIfInBounds_toArray, List.set_cons_zero, List.set_cons_succ]
          refine WL.skip (by rfl) ?_
          simp only [Act.put, List.setIfInBounds_toArray, List.set_cons_zero, List.set_cons_succ]
          refine WL.skip (by rfl) ?_
          simp only [Act.put, List.setIfInBounds_toArray, List.set_cons_zero, List.set_cons_succ]
          refine WL.skip (by rfl) ?_
          simp only [Act.put, List.setIfInBounds_toArray, List.set_cons_zero, List.set_cons_succ]
          refine WL.skip (by rfl) ?_
          simp only [Act.put, List.setIfInBounds_toArray, List.set_cons_zero, List.set_cons_succ]
          refine WL.skip (by rfl) ?_
          simp only [Act.put, List.setIfInBounds_toArray, List.set_cons_zero, List.set_cons_succ]
          refine WL.skip (by rfl) ?_
          simp only [Act.put, List.setIfInBounds_toArray, List.set_cons_zero, List.set_cons_succ]
          refine WL.take (v := ?tv47c181) (by rfl) ?ty47c181 ?tr47c181
          case ty47c181 => (go_simp; first | done | with_reducible rfl)
          simp only [Act.put, List.setIfInBounds_toArray, List.set_cons_zero, List.set_cons_succ]
          refine WL.take (v := ?tv48c182) (by rfl) ?ty48c182 ?tr48c182
          case ty48c182 => (go_simp; first | done | with_reducible rfl)
          simp only [Act.put, List.setIfInBounds_toArray, List.set_cons_zero, List.set_cons_succ]
          refine WL.skip (by rfl) ?_
          simp only [Act.put, List.setIfInBounds_toArray, List.set_cons_zero, List.set_cons_succ]
          refine WL.skip (by rfl) ?_
          simp only [Act.put, List.setIfInBounds_toArray, List.set_cons_zero, List.set_cons_succ]
          refine WL.skip (by rfl) ?_
          simp only [Act.put, List.setIfInBounds_toArray, List.set_cons_zero, List.set_cons_succ]
          refine WL.skip (by rfl) ?_
          simp only [Act.put, List.setIfInBounds_toArray, List.set_cons_zero, List.set_cons_succ]
          refine WL.skip (by rfl) ?_
          simp only [Act.put, List.setIfInBounds_toArray, List.set_cons_zero, List.set_cons_succ]
          refine WL.skip (by rfl) ?_
          simp only [Act.put, List.setIfInBounds_toArray, List.set_cons_zero, List.set_cons_succ]
          refine WL.take (v := ?tv55c183) (by rfl) ?ty55c183 ?tr55c183
          case ty55c183 => (go_simp; first | done | with_reducible rfl)
          simp only [Act.put, List.setIfInBounds_toArray, List.set_cons_zero, List.set_cons_succ]
          refine WL.take (v := ?tv56c184) (by rfl) ?ty56c184 ?tr56c184
          case ty56c184 => (go_simp; first | done | with_reducible rfl)
          simp only [Act.put, List.setIfInBounds_toArray, List.set_cons_zero, List.set_cons_succ]
          refine WL.skip (by rfl) ?_
          simp only [Act.put, List.setIfInBounds_toArray, List.set_cons_zero, List.set_cons_succ]
          refine WL.skip (by rfl) ?_
          simp only [Act.put, List.setIfInBounds_toArray, List.set_cons_zero, List.set_cons_succ]
          refine WL.skip (by rfl) ?_
          simp only [Act.put, List.setIfInBounds_toArray, List.set_cons_zero, List.set_cons_succ]
          refine WL.skip (by rfl) ?_
          simp only [Act.put, List.setIfInBounds_toArray, List.set_cons_zero, List.set_cons_succ]
          refine WL.skip (by rfl) ?_
          simp only [Act.put, List.setIfInBounds_toArray, List.set_cons_zero, List.set_cons_succ]
          refine WL.skip (by rfl) ?_
          simp only [Act.put, List.setIfInBounds_toArray, List.set_cons_zero, List.set_cons_succ]
          refine WL.skip (by rfl) ?_
          simp only [Act.put, List.setIfInBounds_toArray, List.set_cons_zero, List.set_cons_succ]
          refine WL.take (v := ?tv64c185) (by rfl) ?ty64c185 ?tr64c185
          case ty64c185 => (go_simp; first | done | with_reducible rfl)
          simp only [Act.put, List.setIfInBounds_toArray, List.set_cons_zero, List.set_cons_succ]
          refine WL.done ?_
          have hno := Lib.hid (HNO.out (fun e => h17 (MsR.mk.inj e).2.2.1))
          go_wp2
          go_meet
          exact ⟨true, rfl, g2, k2', hb, Lib.hid (fun _ => hno.out), Lib.hid (fun e => by cases e)⟩
      · have hqh10 : (f1 == f2) = false := beq_eq_false_iff_ne.2 h10
        have hrh10 : (f1 != f2) = true := bne_iff_ne.2 h10
        refine WL.take (v := ?tv10c186) (by rfl) ?ty10c186 ?tr10c186
        case ty10c186 => (go_simp; first | done | with_reducible rfl)
        simp only [Act.put, List.setIfInBounds_toArray, List.set_cons_zero, List.set_cons_succ]
        refine WL.take (v := ?tv11c187) (by rfl) ?ty11c187 ?tr11c187
        case ty11c187 => (go_simp; first | done | with_reducible rfl)
        simp only [Act.put, List.setIfInBounds_toArray, List.set_cons_zero, List.set_cons_succ]
        refine WL.take (v := ?tv12c188) (by rfl) ?ty12c188 ?tr12c188
        case ty12c188 => (go_simp; first | done | with_reducible rfl)
        simp only [Act.put, List.setIfInBounds_toArray, List.set_cons_zero, List.set_cons_succ]
        refine WL.skip (by rfl) ?_
        simp only [Act.put, List.setIfInBounds_toArray, List.set_cons_zero, List.set_cons_succ]
        refine WL.skip (by rfl) ?_
        simp only [Act.put, List.setIfInBounds_toArray, List.set_cons_zero, List.set_cons_succ]
        refine WL.skip (by rfl) ?_
        simp only [Act.put, List.setIfInBounds_toArray, List.set_cons_zero, List.set_cons_succ]
        refine WL.skip (by rfl) ?_
        simp only [Act.put, List.setIfInBounds_toArray, List.set_cons_zero, List.set_cons_succ]
        refine WL.skip (by rfl) ?_
        simp only [Act.put, List.setIfInBounds_toArray, List.set_cons_zero, List.set_cons_succ]
        refine WL.take (v := ?tv18c189) (by rfl) ?ty18c189 ?tr18c189
        case ty18c189 => (go_simp; first | done | with_reducible rfl)
        simp only [Act.put, List.setIfInBounds_toArray, List.set_cons_zero, List.set_cons_succ]
        refine WL.take (v := ?tv19c190) (by rfl) ?ty19c190 ?tr19c190
        case ty19c190 => (go_simp; first | done | with_reducible rfl)
        simp only [Act.put, List.setIfInBounds_toArray, List.set_cons_zero, List.set_cons_succ]
        refine WL.skip (by rfl) ?_
        simp only [Act.put, List.setIfInBounds_toArray, List.set_cons_zero, List.set_cons_succ]
        refine WL.skip (by rfl) ?_
        simp only [Act.put, List.setIfInBounds_toArray, List.set_cons_zero, List.set_cons_succ]
        refine WL.skip (by rfl) ?_
        simp only [Act.put, List.setIfInBounds_toArray, List.set_cons_zero, List.set_cons_succ]
        refine WL.skip (by rfl) ?_
        simp only [Act.put, List.setIfInBounds_toArray, List.set_cons_zero, List.set_cons_succ]
        refine WL.skip (by rfl) ?_
        simp only [Act.put, List.setIfInBounds_toArray, List.set_cons_zero, List.set_cons_succ]
        refine WL.take (v := ?tv25c191) (by rfl) ?ty25c191 ?tr25c191
        case ty25c191 => (go_simp; first | done | with_reducible rfl)
        simp only [Act.put, List.setIfInBounds_toArray, List.set_cons_zero, List.set_cons_succ]
        refine WL.take (v := ?tv26c192) (by rfl) ?ty26c192 ?tr26c192
        case ty26c192 => (go_simp; first | done | with_reducible rfl)
        simp only [Act.put, List.setIfInBounds_toArray, List.set_cons_zero, List.set_cons_succ]
        refine WL.skip (by rfl) ?_
        simp only [Act.put, List.setIfInBounds_toArray, List.set_cons_zero, List.set_cons_succ]
        refine WL.skip (by rfl) ?_
        simp only [Act.put, List.setIfInBounds_toArray, List.set_cons_zero, List.set_cons_succ]
        refine WL.skip (by rfl) ?_
        simp only [Act.put, List.setIfInBounds_toArray, List.set_cons_zero, List.set_cons_succ]
        refine WL.skip (by rfl) ?_
        simp only [Act.put, List.setIfInBounds_toArray, List.set_cons_zero, List.set_cons_succ]
        refine WL.skip (by rfl) ?_
        simp only [Act.put, List.setIfInBounds_toArray, List.set_cons_zero, List.set_cons_succ]
        refine WL.take (v := ?tv32c193) (by rfl) ?ty32c193 ?tr32c193
        case ty32c193 => (go_simp; first | done | with_reducible rfl)
        simp only [Act.put, List.setIfInBounds_toArray, List.set_cons_zero, List.set_cons_succ]
        refine WL.take (v := ?tv33c194) (by rfl) ?ty33c194 ?tr33c194
        case ty33c194 => (go_simp; first | done | with_reducible rfl)
        simp only [Act.put, List.setIfInBounds_toArray, List.set_cons_zero, List.set_cons_succ]
        refine WL.skip (by rfl) ?_
        simp only [Act.put, List.setIfInBounds_toArray, List.set_cons_zero, List.set_cons_succ]
        refine WL.skip (by rfl) ?_
        simp only [Act.put, List.setIfInBounds_toArray, List.set_cons_zero, List.set_cons_succ]
        refine WL.skip (by rfl) ?_
        simp only [Act.put, List.setIfInBounds_toArray, List.set_cons_zero, List.set_cons_succ]
        refine WL.skip (by rfl) ?_
        simp only [Act.put, List.setIfInBounds_toArray, List.set_cons_zero, List.set_cons_succ]
        refine WL.skip (by rfl) ?_
        simp only [Act.put, List.setIfInBounds_toArray, List.set_cons_zero, List.set_cons_succ]
        refine WL.take (v := ?tv39c195) (by rfl) ?ty39c195 ?tr39c195
        case ty39c195 => (go_simp; first | done | with_reducible rfl)
        simp only [Act.put, List.setIfInBounds_toArray, List.set_cons_zero, List.set_cons_succ]
        refine WL.take (v := ?tv40c196) (by rfl) ?ty40c196 ?tr40c196
        case ty40c196 => (go_simp; first | done | with_reducible rfl)
        simp only [Act.put, List.setIfInBounds_toArray, List.set_cons_zero, List.set_cons_succ]
        refine WL.skip (by rfl) ?_
        simp only [Act.put, List.setIfInBounds_toArray, List.set_cons_zero, List.set_cons_succ]
        refine WL.skip (by rfl) ?_
        simp only [Act.put, List.setIfInBounds_toArray, List.set_cons_zero, List.set_cons_succ]
        refine WL.skip (by rfl) ?_
        simp only [Act.put, List.setIfInBounds_toArray, List.set_cons_zero, List.set_cons_succ]
        refine WL.skip (by rfl) ?_
        simp only [Act.put, List.setIfInBounds_toArray, List.set_cons_zero, List.set_cons_succ]
        refine WL.skip (by rfl) ?_
        simp only [Act.put, List.setIfInBounds_toArray, List.set_cons_zero, List.set_cons_succ]
        refine WL.skip (by rfl) ?_
        simp only [Act.put, List.setIfInBounds_toArray, List.set_cons_zero, List.set_cons_succ]
        refine WL.take (v := ?tv47c197) (by rfl) ?ty47c197 ?tr47c197
        case ty47c197 => (go_simp; first | done | with_reducible rfl)
        simp only [Act.put, List.setIfInBounds_toArray, List.set_cons_zero, List.set_cons_succ]
        refine WL.take (v := ?tv48c198) (by rfl) ?ty48c198 ?tr48c198
        case ty48c198 => (go_simp; first | done | with_reducible rfl)
        simp only [Act.put, List.setIfInBounds_toArray, List.set_cons_zero, List.set_cons_succ]
        refine WL.skip (by rfl) ?_
        simp only [Act.put, List.setIfInBounds_toArray, List.set_cons_zero, List.set_cons_succ]
        refine WL.skip (by rfl) ?_
        simp only [Act.put, List.setIfInBounds_toArray, List.set_cons_zero, List.set_cons_succ]
        refine WL.skip (by rfl) ?_
        simp only [Act.put, List.setIfInBounds_toArray, List.set_cons_zero, List.set_cons_succ]
        refine WL.skip (by rfl) ?_
        simp only [Act.put, List.setIfInBounds_toArray, List.set_cons_zero, List.set_cons_succ]
        refine WL.skip (by rfl) ?_
        simp only [Act.put, List.setIfInBounds_toArray, List.set_cons_zero, List.set_cons_succ]
        refine WL.skip (by rfl) ?_
        simp only [Act.put, List.setIfInBounds_toArray, List.set_cons_zero, List.set_cons_succ]
        refine WL.take (v := ?tv55c199) (by rfl) ?ty55c199 ?tr55c199
        case ty55c199 => (go_simp; first | done | with_reducible rfl)
        simp only [Act.put, List.setIfInBounds_toArray, List.set_cons_zero, List.set_cons_succ]
        refine WL.take (v := ?tv56c200) (by rfl) ?ty56c200 ?tr56c200
        case ty56c200 => (go_simp; first | done | with_reducible rfl)
        simp only [Act.put, List.setIfInBounds_toArray, List.set_cons_zero, List.set_cons_succ]
        refine WL.skip (by rfl) ?_
        simp only [Act.put, List.setIfInBounds_toArray, List.set_cons_zero, List.set_cons_succ]
        refine WL.skip (by rfl) ?_
        simp only [Act.put, List.setIfInBounds_toArray, List.set_cons_zero, List.set_cons_succ]
        refine WL.skip (by rfl) ?_
        simp only [Act.put, List.setIfInBounds_toArray, List.set_cons_zero, List.set_cons_succ]
        refine WL.skip (by rfl) ?_
        simp only [Act.put, List.setIfInBounds_toArray, List.set_cons_zero, List.set_cons_succ]
        refine WL.skip (by rfl) ?_
        simp only [Act.put, List.setIfInBounds_toArray, List.set_cons_zero, List.set_cons_succ]
        refine WL.skip (by rfl) ?_
        simp only [Act.put, List.setIfInBounds_toArray, List.set_cons_zero, List.set_cons_succ]
        refine WL.skip (by rfl) ?_
        simp only [Act.put, List.setIfInBounds_toArray, List.set_cons_zero, List.set_cons_succ]
        refine WL.take (v := ?tv64c201) (by rfl) ?ty64c201 ?tr64c201
        case ty64c201 => (go_simp; first | done | with_reducible rfl)
        simp only [Act.put, List.setIfInBounds_toArray, List.set_cons_zero, List.set_cons_succ]
        refine WL.done ?_
        have hno := Lib.hid (HNO.out (fun e => h10 (MsR.mk.inj e).2.1))
        go_wp2
        go_meet
        exact ⟨true, rfl, g2, k2', hb, Lib.hid (fun _ => hno.out), Lib.hid (fun e => by cases e)⟩
    · have hqh4 : (k1 == k2) = false := beq_eq_false_iff_ne.2 h4
      have hrh4 : (k1 != k2) = true := bne_iff_ne.2 h4
      refine WL.take (v := ?tv4c202) (by rfl) ?ty4c202 ?tr4c202
      case ty4c202 => (go_simp; first | done | with_reducible rfl)
      simp only [Act.put, List.setIfInBounds_toArray, List.set_cons_zero, List.set_cons_succ]
      refine WL.take (v := ?tv5c203) (by rfl) ?ty5c203 ?tr5c203
      case ty5c203 => (go_simp; first | done | with_reducible rfl)
      simp only [Act.put, List.setIfInBounds_toArray, List.set_cons_zero, List.set_cons_succ]
      refine WL.skip (by rfl) ?_
      simp only [Act.put, List.setIfInBounds_toArray, List.set_cons_zero, List.set_cons_succ]
      refine WL.skip (by rfl) ?_
      simp only [Act.put, List.setIfInBounds_toArray, List.set_cons_zero, List.set_cons_succ]
      refine WL.skip (by rfl) ?_
      simp only [Act.put, List.setIfInBounds_toArray, List.set_cons_zero, List.set_cons_succ]
      refine WL.skip (by rfl) ?_
      simp only [Act.put, List.setIfInBounds_toArray, List.set_cons_zero, List.set_cons_succ]
      refine WL.skip (by rfl) ?_
      simp only [Act.put, List.setIfInBounds_toArray, List.set_cons_zero, List.set_cons_succ]
      refine WL.take (v := ?tv11c204) (by rfl) ?ty11c204 ?tr11c204
      case ty11c204 => (go_simp; first | done | with_reducible rfl)
      simp only [Act.put, List.setIfInBounds_toArray, List.set_cons_zero, List.set_cons_succ]
      refine WL.take (v := ?tv12c205) (by rfl) ?ty12c205 ?tr12c205
      case ty12c205 => (go_simp; first | done | with_reducible rfl)
      simp only [Act.put, List.setIfInBounds_toArray, List.set_cons_zero, List.set_cons_succ]
      refine WL.skip (by rfl) ?_
      simp only [Act.put, List.setIfInBounds_toArray, List.set_cons_zero, List.set_cons_succ]
      refine WL.skip (by rfl) ?_
      simp only [Act.put, List.setIfInBounds_toArray, List.set_cons_zero, List.set_cons_succ]
      refine WL.skip (by rfl) ?_
      simp only [Act.put, List.setIfInBounds_toArray, List.set_cons_zero, List.set_cons_succ]
      refine WL.skip (by rfl) ?_
      simp only [Act.put, List.setIfInBounds_toArray, List.set_cons_zero, List.set_cons_succ]
      refine WL.skip (by rfl) ?_
      simp only [Act.put, List.setIfInBounds_toArray, List.set_cons_zero, List.set_cons_succ]
      refine WL.take (v := ?tv18c206) (by rfl) ?ty18c206 ?tr18c206
      case ty18c206 => (go_simp; first | done | with_reducible rfl)
      simp only [Act.put, List.setIfInBounds_toArray, List.set_cons_zero, List.set_cons_succ]
      refine WL.take (v := ?tv19c207) (by rfl) ?ty19c207 ?tr19c207
      case ty19c207 => (go_simp; first | done | with_reducible rfl)
      simp only [Act.put, List.setIfInBounds_toArray, List.set_cons_zero, List.set_cons_succ]
      refine WL.skip (by rfl) ?_
      simp only [Act.put, List.setIfInBounds_toArray, List.set_cons_zero, List.set_cons_succ]
      refine WL.skip (by rfl) ?_
      simp only [Act.put, List.setIfInBounds_toArray, List.set_cons_zero, List.set_cons_succ]
      refine WL.skip (by rfl) ?_
      simp only [Act.put, List.setIfInBounds_toArray, List.set_cons_zero, List.set_cons_succ]
      refine WL.skip (by rfl) ?_
      simp only [Act.put, List.setIfInBounds_toArray, List.set_cons_zero, List.set_cons_succ]
      refine WL.skip (by rfl) ?_
      simp only [Act.put, List.setIfInBounds_toArray, List.set_cons_zero, List.set_cons_succ]
      refine WL.take (v := ?tv25c208) (by rfl) ?ty25c208 ?tr25c208
      case ty25c208 => (go_simp; first | done | with_reducible rfl)
      simp only [Act.put, List.setIfInBounds_toArray, List.set_cons_zero, List.set_cons_succ]
      refine WL.take (v := ?tv26c209) (by rfl) ?ty26c209 ?tr26c209
      case ty26c209 => (go_simp; first | done | with_reducible rfl)
      simp only [Act.put, List.setIfInBounds_toArray, List.set_cons_zero, List.set_cons_succ]
      refine WL.skip (by rfl) ?_
      simp only [Act.put, List.setIfInBounds_toArray, List.set_cons_zero, List.set_cons_succ]
      refine WL.skip (by rfl) ?_
      simp only [Act.put, List.setIfInBounds_toArray, List.set_cons_zero, List.set_cons_succ]
      refine WL.skip (by rfl) ?_
      simp only [Act.put, List.setIfInBounds_toArray, List.set_cons_zero, List.set_cons_succ]
      refine WL.skip (by rfl) ?_
      simp only [Act.put, List.setIfInBounds_toArray, List.set_cons_zero, List.set_cons_succ]
      refine WL.skip (by rfl) ?_
      simp only [Act.put, List.setIfInBounds_toArray, List.set_cons_zero, List.set_cons_succ]
      refine WL.take (v := ?tv32c210) (by rfl) ?ty32c210 ?tr32c210
      case ty32c210 => (go_simp; first | done | with_reducible rfl)
      simp only [Act.put, List.setIfInBounds_toArray, List.set_cons_zero, List.set_cons_succ]
      refine WL.take (v := ?tv33c211) (by rfl) ?ty33c211 ?tr33c211
      case ty33c211 => (go_simp; first | done | with_reducible rfl)
      simp only [Act.put, List.setIfInBounds_toArray, List.set_cons_zero, List.set_cons_succ]
      refine WL.skip (by rfl) ?_
      simp only [Act.put, List.setIfInBounds_toArray, List.set_cons_zero, List.set_cons_succ]
      refine WL.skip (by rfl) ?_
      simp only [Act.put, List.setIfInBounds_toArray, List.set_cons_zero, List.set_cons_succ]
      refine WL.skip (by rfl) ?_
      simp only [Act.put, List.setIfInBounds_toArray, List.set_cons_zero, List.set_cons_succ]
      refine WL.skip (by rfl) ?_
      simp only [Act.put, List.setIfInBounds_toArray, List.set_cons_zero, List.set_cons_succ]
      refine WL.skip (by rfl) ?_
      simp only [Act.put, List.setIfInBounds_toArray, List.set_cons_zero, List.set_cons_succ]
      refine WL.take (v := ?tv39c212) (by rfl) ?ty39c212 ?tr39c212
      case ty39c212 => (go_simp; first | done | with_reducible rfl)
      simp only [Act.put, List.setIfInBounds_toArray, List.set_cons_zero, List.set_cons_succ]
      refine WL.take (v := ?tv40c213) (by rfl) ?ty40c213 ?tr40c213
      case ty40c213 => (go_simp; first | done | with_reducible rfl)
      simp only [Act.put, List.setIfInBounds_toArray, List.set_cons_zero, List.set_cons_succ]
      refine WL.skip (by rfl) ?_
      simp only [Act.put, List.setIfInBounds_toArray, List.set_cons_zero, List.set_cons_succ]
      refine WL.skip (by rfl) ?_
      simp only [Act.put, List.setIfInBounds_toArray, List.set_cons_zero, List.set_cons_succ]
      refine WL.skip (by rfl) ?_
      simp only [Act.put, List.setIfInBounds_toArray, List.set_cons_zero, List.set_cons_succ]
      refine WL.skip (by rfl) ?_
      simp only [Act.put, List.setIfInBounds_toArray, List.set_cons_zero, List.set_cons_succ]
      refine WL.skip (by rfl) ?_
      simp only [Act.put, List.setIfInBounds_toArray, List.set_cons_zero, List.set_cons_succ]
      refine WL.skip (by rfl) ?_
      simp only [Act.put, List.setIfInBounds_toArray, List.set_cons_zero, List.set_cons_succ]
      refine WL.take (v := ?tv47c214) (by rfl) ?ty47c214 ?tr47c214
      case ty47c214 => (go_simp; first | done | with_reducible rfl)
      simp only [Act.put, List.setIfInBounds_toArray, List.set_cons_zero, List.set_cons_succ]
      refine WL.take (v := ?tv48c215) (by rfl) ?ty48c215 ?tr48c215
      case ty48c215 => (go_simp; first | done | with_reducible rfl)
      simp only [Act.put, List.setIfInBounds_toArray, List.set_cons_zero, List.set_cons_succ]
      refine WL.skip (by rfl) ?_
      simp only [Act.put, List.setIfInBounds_toArray, List.set_cons_zero, List.set_cons_succ]
      refine WL.skip (by rfl) ?_
      simp only [Act.put, List.setIfInBounds_toArray, List.set_cons_zero, List.set_cons_succ]
      refine WL.skip (by rfl) ?_
      simp only [Act.put, List.setIfInBounds_toArray, List.set_cons_zero, List.set_cons_succ]
      refine WL.skip (by rfl) ?_
      simp only [Act.put, List.setIfInBounds_toArray, List.set_cons_zero, List.set_cons_succ]
      refine WL.skip (by rfl) ?_
      simp only [Act.put, List.setIfInBounds_toArray, List.set_cons_zero, List.set_cons_succ]
      refine WL.skip (by rfl) ?_
      simp only [Act.put, List.setIfInBounds_toArray, List.set_cons_zero, List.set_cons_succ]
      refine WL.take (v := ?tv55c216) (by rfl) ?ty55c216 ?tr55c216
      case ty55c216 => (go_simp; first | done | with_reducible rfl)
      simp only [Act.put, List.setIfInBounds_toArray, List.set_cons_zero, List.set_cons_succ]
      refine WL.take (v := ?tv56c217) (by rfl) ?ty56c217 ?tr56c217
      case ty56c217 => (go_simp; first | done | with_reducible rfl)
      simp only [Act.put, List.setIfInBounds_toArray, List.set_cons_zero, List.set_cons_succ]
      refine WL.skip (by rfl) ?_
      simp only [Act.put, List.setIfInBounds_toArray, List.set_cons_zero, List.set_cons_succ]
      refine WL.skip (by rfl) ?_
      simp only [Act.put, List.setIfInBounds_toArray, List.set_cons_zero, List.set_cons_succ]
      refine WL.skip (by rfl) ?_
      simp only [Act.put, List.setIfInBounds_toArray, List.set_cons_zero, List.set_cons_succ]
      refine WL.skip (by rfl) ?_
      simp only [Act.put, List.setIfInBounds_toArray, List.set_cons_zero, List.set_cons_succ]
      refine WL.skip (by rfl) ?_
      simp only [Act.put, List.setIfInBounds_toArray, List.set_cons_zero, List.set_cons_succ]
      refine WL.skip (by rfl) ?_
      simp only [Act.put, List.setIfInBounds_toArray, List.set_cons_zero, List.set_cons_succ]
      refine WL.skip (by rfl) ?_
      simp only [Act.put, List.setIfInBounds_toArray, List.set_cons_zero, List.set_cons_succ]
      refine WL.take (v := ?tv64c218) (by rfl) ?ty64c218 ?tr64c218
      case ty64c218 => (go_simp; first | done | with_reducible rfl)
      simp only [Act.put, List.setIfInBounds_toArray, List.set_cons_zero, List.set_cons_succ]
      refine WL.done ?_
      have hno := Lib.hid (HNO.out (fun e => h4 (MsR.mk.inj e).1))
      go_wp2
      go_meet
      exact ⟨true, rfl, g2, k2', hb, Lib.hid (fun _ => hno.out), Lib.hid (fun e => by cases e)⟩
  case rest =>
    clear c0 c1 c2 c3 c4 c5 c6 c7 c8 c9 c10 c11 c12 c13 b0 b1 b2 b3 b4 b5 b6 b7 b8 b9 b10 b11 b12 b13
    clear g2 k2' hb
    rename World => wb
    obtain ⟨r, rfl, g2, k2', hb, HT, HF⟩ := hcut
    cases r with
    | true =>
      have hno := Lib.hid (HT.out rfl)
      go_wp2
      go_ret
      exact ⟨by rw [hno.out]; rfl, hb⟩
    | false =>
    have HZ := Lib.hid (HF.out rfl)
    have hIle : I1 ≤ I2 := by have := HZ.out.2.2.2.2.2.2.2.2; omega
    have hIge : I2 ≤ I1 := by have := HZ.out.2.2.2.2.2.2.2.2; omega
    have HG2 := Lib.hid g2
    have HK2 := Lib.hid k2'
    have HB := Lib.hid hb
    have c13 : wb.cell? ⟨w.heap.size, 13, none⟩ = some (.slice ia I1 ic) := cell_of_row _ _ 13 _ _ _ g2
    clear g2 k2' hb HT HF
    go_wp2
    go_loopw [5] (fun vi wr => ∃ i : Nat, i ≤ I1 ∧ vi = .int .i64 (i : Nat) ∧ Hid (∀ j, j < i → i1[j]? = i2[j]?) ∧ Hid (Below w.heap.size w wr) ∧ Hid (wr.heap[w.heap.size]? = some (.cells #[.int .i64 k1, .int .i64 f1, .int .i64 t1, .int .i64 o1, .int .i64 d1, .string key1, .int .i64 m1.N, .int .i64 m1.c, .int .i64 m1.s, .int .i64 m1.t, .bool m1.d, .slice xa xn xc, .slice sa S1 sc, .slice ia I1 ic] MMT (0, 0))) ∧ Hid (wr.heap[w.heap.size + 1]? = some (.cells #[.int .i64 k2, .int .i64 f2, .int .i64 t2, .int .i64 o2, .int .i64 d2, .string key2, .int .i64 m2.N, .int .i64 m2.c, .int .i64 m2.s, .int .i64 m2.t, .bool m2.d, .slice ya yn yc, .slice ta S2 tc, .slice ja I2 jc] MMT (0, 0)))) (fun vi _ => I1 - (intOf vi).toNat)
    case atStart => exact ⟨0, Nat.zero_le _, rfl, Lib.hid (fun j hj => absurd hj (Nat.not_lt_zero _)), HB, HG2, HK2⟩
    case round =>
      clear c13 HB HG2 HK2
      obtain ⟨i, hi', rfl, HE, HB, HG2, HK2⟩ := hrel
      have c13 : wr.cell? ⟨w.heap.size, 13, none⟩ = some (.slice ia I1 ic) := cell_of_row _ _ 13 _ _ _ HG2.out
      by_cases hlt : i < I1
      · obtain ⟨q, off, y1, ⟨za, zn, zc⟩, rfl, hp1, hat1⟩ := H3.out.at hlt
        obtain ⟨p, oft, y2, ⟨ua, un, uc⟩, rfl, hp2, hat2⟩ := J3.out.at (show i < I2 by omega)
        obtain ⟨yk1, ym1⟩ := y1
        obtain ⟨yk2, ym2⟩ := y2
        have HA1 := Lib.hid hat1
        have HA2 := Lib.hid hat2
        have HP1 := Lib.hid hp1
        have HP2 := Lib.hid hp2
        have i0 : (0 : Int) ≤ (i : Int) := by omega
        have j1' : (i : Int) < (I1 : Int) := by omega
        have j2' : (i : Int) < (I2 : Int) := by omega
        have KM := sameMeta_any ym1 ym2 za zn zc ua un uc wr.drew ((hat1.below HB.out).by_.below (drewBelow wr)) ((hat2.below HB.out).by_.below (drewBelow wr))
        simp only [MC] at KM
        clear hat1 hat2 hp1 hp2
        have hbd : Below w.heap.size w wr.drew := HB.out.drew
        have P0 : wr.drew.cell? ⟨w.heap.size, 13, none⟩ = some (.slice (some ⟨q, off, none⟩) I1 ic) ∧ wr.drew.cell? ⟨w.heap.size + 1, 13, none⟩ = some (.slice (some ⟨p, oft, none⟩) I2 jc) ∧ wr.drew.cell? ⟨q, off + i * 7, none⟩ = some (.string yk1) ∧ wr.drew.cell? ⟨q, off + i * 7 + 1, none⟩ = some (.int .i64 ym1.N) ∧ wr.drew.cell? ⟨q, off + i * 7 + 2, none⟩ = some (.int .i64 ym1.c) ∧ wr.drew.cell? ⟨q, off + i * 7 + 3, none⟩ = some (.int .i64 ym1.s) ∧ wr.drew.cell? ⟨q, off + i * 7 + 4, none⟩ = some (.int .i64 ym1.t) ∧ wr.drew.cell? ⟨q, off + i * 7 + 5, none⟩ = some (.bool ym1.d) ∧ wr.drew.cell? ⟨q, off + i * 7 + 6, none⟩ = some (.slice za zn zc) ∧ wr.drew.cell? ⟨p, oft + i * 7, none⟩ = some (.string yk2) ∧ wr.drew.cell? ⟨p, oft + i * 7 + 1, none⟩ = some (.int .i64 ym2.N) ∧ wr.drew.cell? ⟨p, oft + i * 7 + 2, none⟩ = some (.int .i64 ym2.c) ∧ wr.drew.cell? ⟨p, oft + i * 7 + 3, none⟩ = some (.int .i64 ym2.s) ∧ wr.drew.cell? ⟨p, oft + i * 7 + 4, none⟩ = some (.int .i64 ym2.t) ∧ wr.drew.cell? ⟨p, oft + i * 7 + 5, none⟩ = some (.bool ym2.d) ∧ wr.drew.cell? ⟨p, oft + i * 7 + 6, none⟩ = some (.slice ua un uc) := ⟨cell_of_row _ _ 13 _ _ _ (show wr.drew.heap[w.heap.size]? = _ from HG2.out), cell_of_row _ _ 13 _ _ _ (show wr.drew.heap[w.heap.size + 1]? = _ from HK2.out), (HA1.out.below hbd).c0, (HA1.out.below hbd).c1, (HA1.out.below hbd).c2, (HA1.out.below hbd).c3, (HA1.out.below hbd).c4, (HA1.out.below hbd).c5, (HA1.out.below hbd).c6, (HA2.out.below hbd).c0, (HA2.out.below hbd).c1, (HA2.out.below hbd).c2, (HA2.out.below hbd).c3, (HA2.out.below hbd).c4, (HA2.out.below hbd).c5, (HA2.out.below hbd).c6⟩
        go_upto_region 6 with fail
        clear c13
        go_cut [106] (fun v wx => ∃ r : Bool, v = .bool r ∧ Hid (Below w.heap.size w wx) ∧ Hid (wx.heap[w.heap.size]? = some (.cells #[.int .i64 k1, .int .i64 f1, .int .i64 t1, .int .i64 o1, .int .i64 d1, .string key1, .int .i64 m1.N, .int .i64 m1.c, .int .i64 m1.s, .int .i64 m1.t, .bool m1.d, .slice xa xn xc, .slice sa S1 sc, .slice (some ⟨q, off, none⟩) I1 ic] MMT (0, 0))) ∧ Hid (wx.heap[w.heap.size + 1]? = some (.cells #[.int .i64 k2, .int .i64 f2, .int .i64 t2, .int .i64 o2, .int .i64 d2, .string key2, .int .i64 m2.N, .int .i64 m2.c, .int .i64 m2.s, .int .i64 m2.t, .bool m2.d, .slice ya yn yc, .slice ta S2 tc, .slice (some ⟨p, oft, none⟩) I2 jc] MMT (0, 0))) ∧ Hid (r = true ↔ ¬ (⟨yk1, ym1⟩ : ItR) = ⟨yk2, ym2⟩))
        case first =>
          by_cases hk : yk1 = yk2
          · have hq := str_beq_true hk
            have HKE := Lib.hid hk
            clear hk
            refine GoX.start 28 (fun w' => w'.cell? ⟨w.heap.size, 13, none⟩ = some (.slice (some ⟨q, off, none⟩) I1 ic) ∧ w'.cell? ⟨w.heap.size + 1, 13, none⟩ = some (.slice (some ⟨p, oft, none⟩) I2 jc) ∧ w'.cell? ⟨q, off + i * 7, none⟩ = some (.string yk1) ∧ w'.cell? ⟨q, off + i * 7 + 1, none⟩ = some (.int .i64 ym1.N) ∧ w'.cell? ⟨q, off + i * 7 + 2, none⟩ = some (.int .i64 ym1.c) ∧ w'.cell? ⟨q, off + i * 7 + 3, none⟩ = some (.int .i64 ym1.s) ∧ w'.cell? ⟨q, off + i * 7 + 4, none⟩ = some (.int .i64 ym1.t) ∧ w'.cell? ⟨q, off + i * 7 + 5, none⟩ = some (.bool ym1.d) ∧ w'.cell? ⟨q, off + i * 7 + 6, none⟩ = some (.slice za zn zc) ∧ w'.cell? ⟨p, oft + i * 7, none⟩ = some (.string yk2) ∧ w'.cell? ⟨p, oft + i * 7 + 1, none⟩ = some (.int .i64 ym2.N) ∧ w'.cell? ⟨p, oft + i * 7 + 2, none⟩ = some (.int .i64 ym2.c) ∧ w'.cell? ⟨p, oft + i * 7 + 3, none⟩ = some (.int .i64 ym2.s) ∧ w'.cell? ⟨p, oft + i * 7 + 4, none⟩ = some (.int .i64 ym2.t) ∧ w'.cell? ⟨p, oft + i * 7 + 5, none⟩ = some (.bool ym2.d) ∧ w'.cell? ⟨p, oft + i * 7 + 6, none⟩ = some (.slice ua un uc)) (by kernel_rfl) ?_
            refine GoX.take 0 rfl (by kernel_rfl) (by kernel_rfl) (by rfl) (fun _ _ _ h => h) (v := ?tv0g219) P0 ?ty0g219 ?tr0g219
            case ty0g219 => (intro w hSw; (try dsimp only at hSw); go_simp; first | done | with_reducible rfl)
            simp only [Act.put, List.setIfInBounds_toArray, List.set_cons_zero, List.set_cons_succ]
            refine GoX.take 1 rfl (by kernel_rfl) (by kernel_rfl) (by rfl) (fun _ _ _ h => h) (v := ?tv1g220) P0 ?ty1g220 ?tr1g220
            case ty1g220 => (intro w hSw; (try dsimp only at hSw); go_simp; first | done | with_reducible rfl)
            simp only [Act.put, List.setIfInBounds_toArray, List.set_cons_zero, List.set_cons_succ]
            refine GoX.take 2 rfl (by kernel_rfl) (by kernel_rfl) (by rfl) (fun _ _ _ h => h) (v := ?tv2g221) P0 ?ty2g221 ?tr2g221
            case ty2g221 => (intro w hSw; (try dsimp only at hSw); go_simp; first | done | with_reducible rfl)
            simp only [Act.put, List.setIfInBounds_toArray, List.set_cons_zero, List.set_cons_succ]
            refine GoX.take 3 rfl (by kernel_rfl) (by kernel_rfl) (by rfl) (fun _ _ _ h => h) (v := ?tv3g222) P0 ?ty3g222 ?tr3g222
            case ty3g222 => (intro w hSw; (try dsimp only at hSw); go_simp; first | done | with_reducible rfl)
            simp only [Act.put, List.setIfInBounds_toArray, List.set_cons_zero, List.set_cons_succ]
            refine GoX.take 4 rfl (by kernel_rfl) (by kernel_rfl) (by rfl) (fun _ _ _ h => h) (v := ?tv4g223) P0 ?ty4g223 ?tr4g223
            case ty4g223 => (intro w hSw; (try dsimp only at hSw); go_simp; first | done | with_reducible rfl)
            simp only [Act.put, List.setIfInBounds_toArray, List.set_cons_zero, List.set_cons_succ]
            refine GoX.take 5 rfl (by kernel_rfl) (by kernel_rfl) (by rfl) (fun _ _ _ h => h) (v := ?tv5g224) P0 ?ty5g224 ?tr5g224
            case ty5g224 => (intro w hSw; (try dsimp only at hSw); go_simp; first | done | with_reducible rfl)
            simp only [Act.put, List.setIfInBounds_toArray, List.set_cons_zero, List.set_cons_succ]
            refine GoX.take 6 rfl (by kernel_rfl) (by kernel_rfl) (by rfl) (fun _ _ _ h => h) (v := ?tv6g225) P0 ?ty6g225 ?tr6g225
            case ty6g225 => (intro w hSw; (try dsimp only at hSw); go_simp; first | done | with_reducible rfl)
            simp only [Act.put, List.setIfInBounds_toArray, List.set_cons_zero, List.set_cons_succ]
            refine GoX.take 7 rfl (by kernel_rfl) (by kernel_rfl) (by rfl) (fun _ _ _ h => h) (v := ?tv7g226) P0 ?ty7g226 ?tr7g226
            case ty7g226 => (intro w hSw; (try dsimp only at hSw); go_simp; first | done | with_reducible rfl)
            simp only [Act.put, List.setIfInBounds_toArray, List.set_cons_zero, List.set_cons_succ]
            refine GoX.take 8 rfl (by kernel_rfl) (by kernel_rfl) (by rfl) (fun _ _ _ h => h) (v := ?tv8g227) P0 ?ty8g227 ?tr8g227
            case ty8g227 => (intro w hSw; (try dsimp only at hSw); go_simp; first | done | with_reducible rfl)
            simp only [Act.put, List.setIfInBounds_toArray, List.set_cons_zero, List.set_cons_succ]
            refine GoX.take 9 rfl (by kernel_rfl) (by kernel_rfl) (by rfl) (fun _ _ _ h => h) (v := ?tv9g228) P0 ?ty9g228 ?tr9g228
            case ty9g228 => (intro w hSw; (try dsimp only at hSw); go_simp; first | done | with_reducible rfl)
            simp only [Act.put, List.setIfInBounds_toArray, List.set_cons_zero, List.set_cons_succ]
            refine GoX.take 10 rfl (by kernel_rfl) (by kernel_rfl) (by rfl) (fun _ _ _ h => h) (v := ?tv10g229) P0 ?ty10g229 ?tr10g229
            case ty10g229 => (intro w hSw; (try dsimp only at hSw); go_simp; first | done | with_reducible rfl)
            simp only [Act.put, List.setIfInBounds_toArray, List.set_cons_zero, List.set_cons_succ]
            refine GoX.take 11 rfl (by kernel_rfl) (by kernel_rfl) (by rfl) (fun _ _ _ h => h) (v := ?tv11g230) P0 ?ty11g230 ?tr11g230
            case ty11g230 => (intro w hSw; (try dsimp only at hSw); go_simp; first | done | with_reducible rfl)
            simp only [Act.put, List.setIfInBounds_toArray, List.set_cons_zero, List.set_cons_succ]
            refine GoX.take 12 rfl (by kernel_rfl) (by kernel_rfl) (by rfl) (fun _ _ _ h => h) (v := ?tv12g231) P0 ?ty12g231 ?tr12g231
            case ty12g231 => (intro w hSw; (try dsimp only at hSw); go_simp; first | done | with_reducible rfl)
            simp only [Act.put, List.setIfInBounds_toArray, List.set_cons_zero, List.set_cons_succ]
            refine GoX.take 13 rfl (by kernel_rfl) (by kernel_rfl) (by rfl) (fun _ _ _ h => h) (v := ?tv13g232) P0 ?ty13g232 ?tr13g232
            case ty13g232 => (intro w hSw; (try dsimp only at hSw); go_simp; first | done | with_reducible rfl)
            simp only [Act.put, List.setIfInBounds_toArray, List.set_cons_zero, List.set_cons_succ]
            refine GoX.take 14 rfl (by kernel_rfl) (by kernel_rfl) (by rfl) (fun _ _ _ h => h) (v := ?tv14g233) P0 ?ty14g233 ?tr14g233
            case ty14g233 => (intro w hSw; (try dsimp only at hSw); go_simp; first | done | with_reducible rfl)
            simp only [Act.put, List.setIfInBounds_toArray, List.set_cons_zero, List.set_cons_succ]
            refine GoX.take 15 rfl (by kernel_rfl) (by kernel_rfl) (by rfl) (fun _ _ _ h => h) (v := ?tv15g234) P0 ?ty15g234 ?tr15g234
            case ty15g234 => (intro w hSw; (try dsimp only at hSw); go_simp; first | done | with_reducible rfl)
            simp only [Act.put, List.setIfInBounds_toArray, List.set_cons_zero, List.set_cons_succ]
            refine GoX.take 16 rfl (by kernel_rfl) (by kernel_rfl) (by rfl) (fun _ _ _ h => h) (v := ?tv16g235) P0 ?ty16g235 ?tr16g235
            case ty16g235 => (intro w hSw; (try dsimp only at hSw); go_simp; first | done | with_reducible rfl)
            simp only [Act.put, List.setIfInBounds_toArray, List.set_cons_zero, List.set_cons_succ]
            refine GoX.take 17 rfl (by kernel_rfl) (by kernel_rfl) (by rfl) (fun _ _ _ h => h) (v := ?tv17g236) P0 ?ty17g236 ?tr17g236
            case ty17g236 => (intro w hSw; (try dsimp only at hSw); go_simp; first | done | with_reducible rfl)
            simp only [Act.put, List.setIfInBounds_toArray, List.set_cons_zero, List.set_cons_succ]
            refine GoX.take 18 rfl (by kernel_rfl) (by kernel_rfl) (by rfl) (fun _ _ _ h => h) (v := ?tv18g237) P0 ?ty18g237 ?tr18g237
            case ty18g237 => (intro w hSw; (try dsimp only at hSw); go_simp; first | done | with_reducible rfl)
            simp only [Act.put, List.setIfInBounds_toArray, List.set_cons_zero, List.set_cons_succ]
            refine GoX.take 19 rfl (by kernel_rfl) (by kernel_rfl) (by rfl) (fun _ _ _ h => h) (v := ?tv19g238) P0 ?ty19g238 ?tr19g238
            case ty19g238 => (intro w hSw; (try dsimp only at hSw); go_simp; first | done | with_reducible rfl)
            simp only [Act.put, List.setIfInBounds_toArray, List.set_cons_zero, List.set_cons_succ]
            refine GoX.take 20 rfl (by kernel_rfl) (by kernel_rfl) (by rfl) (fun _ _ _ h => h) (v := ?tv20g239) P0 ?ty20g239 ?tr20g239
            case ty20g239 => (intro w hSw; (try dsimp only at hSw); go_simp; first | done | with_reducible rfl)
            simp only [Act.put, List.setIfInBounds_toArray, List.set_cons_zero, List.set_cons_succ]
            refine GoX.take 21 rfl (by kernel_rfl) (by kernel_rfl) (by rfl) (fun _ _ _ h => h) (v := ?tv21g240) P0 ?ty21g240 ?tr21g240
            case ty21g240 => (intro w hSw; (try dsimp only at hSw); go_simp; first | done | with_reducible rfl)
            simp only [Act.put, List.setIfInBounds_toArray, List.set_cons_zero, List.set_cons_succ]
            refine GoX.take 22 rfl (by kernel_rfl) (by kernel_rfl) (by rfl) (fun _ _ _ h => h) (v := ?tv22g241) P0 ?ty22g241 ?tr22g241
            case ty22g241 => (intro w hSw; (try dsimp only at hSw); go_simp; first | done | with_reducible rfl)
            simp only [Act.put, List.setIfInBounds_toArray, List.set_cons_zero, List.set_cons_succ]
            refine GoX.take 23 rfl (by kernel_rfl) (by kernel_rfl) (by rfl) (fun _ _ _ h => h) (v := ?tv23g242) P0 ?ty23g242 ?tr23g242
            case ty23g242 => (intro w hSw; (try dsimp only at hSw); go_simp; first | done | with_reducible rfl)
            simp only [Act.put, List.setIfInBounds_toArray, List.set_cons_zero, List.set_cons_succ]
            refine GoX.take 24 rfl (by kernel_rfl) (by kernel_rfl) (by rfl) (fun _ _ _ h => h) (v := ?tv24g243) P0 ?ty24g243 ?tr24g243
            case ty24g243 => (intro w hSw; (try dsimp only at hSw); go_simp; first | done | with_reducible rfl)
            simp only [Act.put, List.setIfInBounds_toArray, List.set_cons_zero, List.set_cons_succ]
            refine GoX.take 25 rfl (by kernel_rfl) (by kernel_rfl) (by rfl) (fun _ _ _ h => h) (v := ?tv25g244) P0 ?ty25g244 ?tr25g244
            case ty25g244 => (intro w hSw; (try dsimp only at hSw); go_simp; first | done | with_reducible rfl)
            simp only [Act.put, List.setIfInBounds_toArray, List.set_cons_zero, List.set_cons_succ]
            refine GoX.one 26 rfl (by kernel_rfl) (by decide) (fun K hK => ?_)
            rw [if_pos (by rfl)]
            go_simp
            (with_reducible refine KM.mono ?_)
            rintro e w5 ⟨rfl, b5⟩
            have b5' : Below wr.heap.size wr w5 := ⟨b5.os, b5.tape, b5.output, b5.size, b5.block⟩
            have hb5 := HB.out.trans (b5'.mono HB.out.size)
            have hg5 := (b5'.block _ (Array.getElem?_eq_some_iff.1 HG2.out).1).trans HG2.out
            have hk5 := (b5'.block _ (Array.getElem?_eq_some_iff.1 HK2.out).1).trans HK2.out
            have HB5 := Lib.hid hb5
            have HG5 := Lib.hid hg5
            have HK5 := Lib.hid hk5
            have P5 : w5.cell? ⟨w.heap.size, 13, none⟩ = some (.slice (some ⟨q, off, none⟩) I1 ic) ∧ w5.cell? ⟨w.heap.size + 1, 13, none⟩ = some (.slice (some ⟨p, oft, none⟩) I2 jc) ∧ w5.cell? ⟨q, off + i * 7, none⟩ = some (.string yk1) ∧ w5.cell? ⟨q, off + i * 7 + 1, none⟩ = some (.int .i64 ym1.N) ∧ w5.cell? ⟨q, off + i * 7 + 2, none⟩ = some (.int .i64 ym1.c) ∧ w5.cell? ⟨q, off + i * 7 + 3, none⟩ = some (.int .i64 ym1.s) ∧ w5.cell? ⟨q, off + i * 7 + 4, none⟩ = some (.int .i64 ym1.t) ∧ w5.cell? ⟨q, off + i * 7 + 5, none⟩ = some (.bool ym1.d) ∧ w5.cell? ⟨q, off + i * 7 + 6, none⟩ = some (.slice za zn zc) ∧ w5.cell? ⟨p, oft + i * 7, none⟩ = some (.string yk2) ∧ w5.cell? ⟨p, oft + i * 7 + 1, none⟩ = some (.int .i64 ym2.N) ∧ w5.cell? ⟨p, oft + i * 7 + 2, none⟩ = some (.int .i64 ym2.c) ∧ w5.cell? ⟨p, oft + i * 7 + 3, none⟩ = some (.int .i64 ym2.s) ∧ w5.cell? ⟨p, oft + i * 7 + 4, none⟩ = some (.int .i64 ym2.t) ∧ w5.cell? ⟨p, oft + i * 7 + 5, none⟩ = some (.bool ym2.d) ∧ w5.cell? ⟨p, oft + i * 7 + 6, none⟩ = some (.slice ua un uc) := ⟨cell_of_row _ _ 13 _ _ _ hg5, cell_of_row _ _ 13 _ _ _ hk5, (HA1.out.below hb5).c0, (HA1.out.below hb5).c1, (HA1.out.below hb5).c2, (HA1.out.below hb5).c3, (HA1.out.below hb5).c4, (HA1.out.below hb5).c5, (HA1.out.below hb5).c6, (HA2.out.below hb5).c0, (HA2.out.below hb5).c1, (HA2.out.below hb5).c2, (HA2.out.below hb5).c3, (HA2.out.below hb5).c4, (HA2.out.below hb5).c5, (HA2.out.below hb5).c6⟩
            clear b5 b5' hb5 hg5 hk5 KM
            refine hK.out _ _ P5 (fun _ => ?_)
            clear hK K
            refine GoX.take 27 rfl (by kernel_rfl) (by kernel_rfl) (by rfl) (fun _ _ _ h => h) (v := ?tv27g245) P5 ?ty27g245 ?tr27g245
            case ty27g245 => (intro w hSw; (try dsimp only at hSw); go_simp; first | done | with_reducible rfl)
            simp only [Act.put, List.setIfInBounds_toArray, List.set_cons_zero, List.set_cons_succ]
            refine GoX.last 28 rfl (by kernel_rfl) (by kernel_rfl) (by decide) ?_
            rw [if_pos (by rfl)]
            go_simp
            go_wp2_with fail
            go_meet
            exact ⟨_, rfl, HB5, HG5, HK5, Lib.hid (by rw [eqMe_dec, HKE.out]; by_cases h : ym1 = ym2 <;> simp [h])⟩
          · have hq := str_beq_false hk
            have HKE := Lib.hid hk
            clear hk KM
            refine GoX.start 28 (fun w' => w'.cell? ⟨w.heap.size, 13, none⟩ = some (.slice (some ⟨q, off, none⟩) I1 ic) ∧ w'.cell? ⟨w.heap.size + 1, 13, none⟩ = some (.slice (some ⟨p, oft, none⟩) I2 jc) ∧ w'.cell? ⟨q, off + i * 7, none⟩ = some (.string yk1) ∧ w'.cell? ⟨q, off + i * 7 + 1, none⟩ = some (.int .i64 ym1.N) ∧ w'.cell? ⟨q, off + i * 7 + 2, none⟩ = some (.int .i64 ym1.c) ∧ w'.cell? ⟨q, off + i * 7 + 3, none⟩ = some (.int .i64 ym1.s) ∧ w'.cell? ⟨q, off + i * 7 + 4, none⟩ = some (.int .i64 ym1.t) ∧ w'.cell? ⟨q, off + i * 7 + 5, none⟩ = some (.bool ym1.d) ∧ w'.cell? ⟨q, off + i * 7 + 6, none⟩ = some (.slice za zn zc) ∧ w'.cell? ⟨p, oft + i * 7, none⟩ = some (.string yk2) ∧ w'.cell? ⟨p, oft + i * 7 + 1, none⟩ = some (.int .i64 ym2.N) ∧ w'.cell? ⟨p, oft + i * 7 + 2, none⟩ = some (.int .i64 ym2.c) ∧ w'.cell? ⟨p, oft + i * 7 + 3, none⟩ = some (.int .i64 ym2.s) ∧ w'.cell? ⟨p, oft + i * 7 + 4, none⟩ = some (.int .i64 ym2.t) ∧ w'.cell? ⟨p, oft + i * 7 + 5, none⟩ = some (.bool ym2.d) ∧ w'.cell? ⟨p, oft + i * 7 + 6, none⟩ = some (.slice ua un uc)) (by kernel_rfl) ?_
            refine GoX.take 0 rfl (by kernel_rfl) (by kernel_rfl) (by rfl) (fun _ _ _ h => h) (v := ?tv0g246) P0 ?ty0g246 ?tr0g246
            case ty0g246 => (intro w hSw; (try dsimp only at hSw); go_simp; first | done | with_reducible rfl)
            simp only [Act.put, List.setIfInBounds_toArray, List.set_cons_zero, List.set_cons_succ]
            refine GoX.take 1 rfl (by kernel_rfl) (by kernel_rfl) (by rfl) (fun _ _ _ h => h) (v := ?tv1g247) P0 ?ty1g247 ?tr1g247
            case ty1g247 => (intro w hSw; (try dsimp only at hSw); go_simp; first | done | with_reducible rfl)
            simp only [Act.put, List.setIfInBounds_toArray, List.set_cons_zero, List.set_cons_succ]
            refine GoX.take 2 rfl (by kernel_rfl) (by kernel_rfl) (by rfl) (fun _ _ _ h => h) (v := ?tv2g248) P0 ?ty2g248 ?tr2g248
            case ty2g248 => (intro w hSw; (try dsimp only at hSw); go_simp; first | done | with_reducible rfl)
            simp only [Act.put, List.setIfInBounds_toArray, List.set_cons_zero, List.set_cons_succ]
            refine GoX.take 3 rfl (by kernel_rfl) (by kernel_rfl) (by rfl) (fun _ _ _ h => h) (v := ?tv3g249) P0 ?ty3g249 ?tr3g249
            case ty3g249 => (intro w hSw; (try dsimp only at hSw); go_simp; first | done | with_reducible rfl)
            simp only [Act.put, List.setIfInBounds_toArray, List.set_cons_zero, List.set_cons_succ]
            refine GoX.take 4 rfl (by kernel_rfl) (by kernel_rfl) (by rfl) (fun _ _ _ h => h) (v := ?tv4g250) P0 ?ty4g250 ?tr4g250
            case ty4g250 => (intro w hSw; (try dsimp only at hSw); go_simp; first | done | with_reducible rfl)
            simp only [Act.put, List.setIfInBounds_toArray, List.set_cons_zero, List.set_cons_succ]
            refine GoX.take 5 rfl (by kernel_rfl) (by kernel_rfl) (by rfl) (fun _ _ _ h => h) (v := ?tv5g251) P0 ?ty5g251 ?tr5g251
            case ty5g251 => (intro w hSw; (try dsimp only at hSw); go_simp; first | done | with_reducible rfl)
            simp only [Act.put, List.setIfInBounds_toArray, List.set_cons_zero, List.set_cons_succ]
            refine GoX.take 6 rfl (by kernel_rfl) (by kernel_rfl) (by rfl) (fun _ _ _ h => h) (v := ?tv6g252) P0 ?ty6g252 ?tr6g252
            case ty6g252 => (intro w hSw; (try dsimp only at hSw); go_simp; first | done | with_reducible rfl)
            simp only [Act.put, List.setIfInBounds_toArray, List.set_cons_zero, List.set_cons_succ]
            refine GoX.take 7 rfl (by kernel_rfl) (by kernel_rfl) (by rfl) (fun _ _ _ h => h) (v := ?tv7g253) P0 ?ty7g253 ?tr7g253
            case ty7g253 => (intro w hSw; (try dsimp only at hSw); go_simp; first | done | with_reducible rfl)
            simp only [Act.put, List.setIfInBounds_toArray, List.set_cons_zero, List.set_cons_succ]
            refine GoX.take 8 rfl (by kernel_rfl) (by kernel_rfl) (by rfl) (fun _ _ _ h => h) (v := ?tv8g254) P0 ?ty8g254 ?tr8g254
            case ty8g254 => (intro w hSw; (try dsimp only at hSw); go_simp; first | done | with_reducible rfl)
            simp only [Act.put, List.setIfInBounds_toArray, List.set_cons_zero, List.set_cons_succ]
            refine GoX.take 9 rfl (by kernel_rfl) (by kernel_rfl) (by rfl) (fun _ _ _ h => h) (v := ?tv9g255) P0 ?ty9g255 ?tr9g255
            case ty9g255 => (intro w hSw; (try dsimp only at hSw); go_simp; first | done | with_reducible rfl)
            simp only [Act.put, List.setIfInBounds_toArray, List.set_cons_zero, List.set_cons_succ]
            refine GoX.take 10 rfl (by kernel_rfl) (by kernel_rfl) (by rfl) (fun _ _ _ h => h) (v := ?tv10g256) P0 ?ty10g256 ?tr10g256
            case ty10g256 => (intro w hSw; (try dsimp only at hSw); go_simp; first | done | with_reducible rfl)
            simp only [Act.put, List.setIfInBounds_toArray, List.set_cons_zero, List.set_cons_succ]
            refine GoX.take 11 rfl (by kernel_rfl) (by kernel_rfl) (by rfl) (fun _ _ _ h => h) (v := ?tv11g257) P0 ?ty11g257 ?tr11g257
            case ty11g257 => (intro w hSw; (try dsimp only at hSw); go_simp; first | done | with_reducible rfl)
            simp only [Act.put, List.setIfInBounds_toArray, List.set_cons_zero, List.set_cons_succ]
            refine GoX.take 12 rfl (by kernel_rfl) (by kernel_rfl) (by rfl) (fun _ _ _ h => h) (v := ?tv12g258) P0 ?ty12g258 ?tr12g258
            case ty12g258 => (intro w hSw; (try dsimp only at hSw); go_simp; first | done | with_reducible rfl)
            simp only [Act.put, List.setIfInBounds_toArray, List.set_cons_zero, List.set_cons_succ]
            refine GoX.take 13 rfl (by kernel_rfl) (by kernel_rfl) (by rfl) (fun _ _ _ h => h) (v := ?tv13g259) P0 ?ty13g259 ?tr13g259
            case ty13g259 => (intro w hSw; (try dsimp only at hSw); go_simp; first | done | with_reducible rfl)
            simp only [Act.put, List.setIfInBounds_toArray, List.set_cons_zero, List.set_cons_succ]
            refine GoX.skip 14 rfl (by kernel_rfl) (by kernel_rfl) (by rfl) (fun _ _ _ h => h) P0 ?_
            simp only [Act.put, List.setIfInBounds_toArray, List.set_cons_zero, List.set_cons_succ]
            refine GoX.skip 15 rfl (by kernel_rfl) (by kernel_rfl) (by rfl) (fun _ _ _ h => h) P0 ?_
            simp only [Act.put, List.setIfInBounds_toArray, List.set_cons_zero, List.set_cons_succ]
            refine GoX.skip 16 rfl (by kernel_rfl) (by kernel_rfl) (by rfl) (fun _ _ _ h => h) P0 ?_
            simp only [Act.put, List.setIfInBounds_toArray, List.set_cons_zero, List.set_cons_succ]
            refine GoX.skip 17 rfl (by kernel_rfl) (by kernel_rfl) (by rfl) (fun _ _ _ h => h) P0 ?_
            simp only [Act.put, List.setIfInBounds_toArray, List.set_cons_zero, List.set_cons_succ]
            refine GoX.skip 18 rfl (by kernel_rfl) (by kernel_rfl) (by rfl) (fun _ _ _ h => h) P0 ?_
            simp only [Act.put, List.setIfInBounds_toArray, List.set_cons_zero, List.set_cons_succ]
            refine GoX.skip 19 rfl (by kernel_rfl) (by kernel_rfl) (by rfl) (fun _ _ _ h => h) P0 ?_
            simp only [Act.put, List.setIfInBounds_toArray, List.set_cons_zero, List.set_cons_succ]
            refine GoX.skip 20 rfl (by kernel_rfl) (by kernel_rfl) (by rfl) (fun _ _ _ h => h) P0 ?_
            simp only [Act.put, List.setIfInBounds_toArray, List.set_cons_zero, List.set_cons_succ]
            refine GoX.skip 21 rfl (by kernel_rfl) (by kernel_rfl) (by rfl) (fun _ _ _ h => h) P0 ?_
            simp only [Act.put, List.setIfInBounds_toArray, List.set_cons_zero, List.set_cons_succ]
            refine GoX.skip 22 rfl (by kernel_rfl) (by kernel_rfl) (by rfl) (fun _ _ _ h => h) P0 ?_
            simp only [Act.put, List.setIfInBounds_toArray, List.set_cons_zero, List.set_cons_succ]
            refine GoX.skip 23 rfl (by kernel_rfl) (by kernel_rfl) (by rfl) (fun _ _ _ h => h) P0 ?_
            simp only [Act.put, List.setIfInBounds_toArray, List.set_cons_zero, List.set_cons_succ]
            refine GoX.skip 24 rfl (by kernel_rfl) (by kernel_rfl) (by rfl) (fun _ _ _ h => h) P0 ?_
            simp only [Act.put, List.setIfInBounds_toArray, List.set_cons_zero, List.set_cons_succ]
            refine GoX.skip 25 rfl (by kernel_rfl) (by kernel_rfl) (by rfl) (fun _ _ _ h => h) P0 ?_
            simp only [Act.put, List.setIfInBounds_toArray, List.set_cons_zero, List.set_cons_succ]
            refine GoX.skip 26 rfl (by kernel_rfl) (by kernel_rfl) (by rfl) (fun _ _ _ h => h) P0 ?_
            simp only [Act.put, List.setIfInBounds_toArray, List.set_cons_zero, List.set_cons_succ]
            refine GoX.skip 27 rfl (by kernel_rfl) (by kernel_rfl) (by rfl) (fun _ _ _ h => h) P0 ?_
            simp only [Act.put, List.setIfInBounds_toArray, List.set_cons_zero, List.set_cons_succ]
            refine GoX.last 28 rfl (by kernel_rfl) (by kernel_rfl) (by decide) ?_
            rw [if_pos (by rfl)]
            go_simp
            go_wp2_with fail
            go_meet
            exact ⟨_, rfl, Lib.hid hbd, HG2, HK2, Lib.hid (by simp [HKE.out])⟩
        case rest =>
          clear HB HG2 HK2 KM hbd P0
          rename World => wt
          obtain ⟨r, rfl, HB, HG2, HK2, HR6⟩ := hcut
          cases r with
          | true =>
            have hno := Lib.hid (HNO.out (fun e => (HR6.out.1 rfl) (by
              have e9 := (MsR.mk.inj e).2.2.2.2.2.2.2.2
              have h1 := HP1.out
              rw [e9, HP2.out] at h1
              injection h1 with h1
              exact h1.symm)))
            go_wp2
            go_ret
            exact ⟨by rw [hno.out]; rfl, HB.out⟩
          | false =>
            have hsame : (⟨yk1, ym1⟩ : ItR) = ⟨yk2, ym2⟩ := by
              by_cases h : (⟨yk1, ym1⟩ : ItR) = ⟨yk2, ym2⟩
              · exact h
              · have := HR6.out.2 h; cases this
            have HNX : Hid (∀ j, j < i + 1 → i1[j]? = i2[j]?) := Lib.hid (fun j hj => by
              by_cases e1 : j = i
              · rw [e1, HP1.out, HP2.out, hsame]
              · exact HE.out j (by omega))
            clear hsame HE HR6
            go_wp2
            go_roundw
            case rel => exact ⟨i + 1, by omega, by go_num, HNX, HB, HG2, HK2⟩
            case measure => simp [intOf] <;> omega
      · obtain rfl : i = I1 := by omega
        have hall : i1 = i2 := List.ext_getElem? (fun j => by
          by_cases h : j < i
          · exact HE.out j h
          · have h1 := HI1.out
            have h2 := HI2.out
            rw [List.getElem?_eq_none (by omega), List.getElem?_eq_none (by omega)])
        have hye := Lib.hid (HYE.out (by
          obtain ⟨z1, z2, z3, z4, z5, z6, z7, z8, -⟩ := HZ.out
          rw [z1, z2, z3, z4, z5, z6, z7, z8, hall]))
        clear hall HE
        go_wp2
        go_ret
        exact ⟨by rw [hye.out]; rfl, HB.out⟩
end Go.Proofs.YtopnjjehefaghaaDoor
