/-
  rillref09: good.
-/
import Derived.Test.YtikjcmijmhmilaaMeR
namespace Go.Proofs.Ytikjcmijmhmilaa
open Go.RowKit

/-- a place as the reference asks: not so. -/
def badP (U : Int) (p : PlR) : Bool := decide (p.b < 0 ∨ 1023 < p.b ∨ p.e < 0 ∨ 16777216 ≤ p.e ∨ p.s < 0 ∨ 511 < p.s ∨ (p.x.2.1 : Int) ≠ U ∨ (U = 0 ∧ p.s ≠ 0))
theorem badP_32 {k : Int} (hk : ¬ k = 4) (p : PlR) : badP 32 p = wrongB (slotsOf k) (sumOf k) p := by
  unfold badP wrongB slotsOf sumOf belowB
  rw [if_neg hk, if_neg hk, Bool.eq_iff_iff]
  simp
  omega
theorem badP_0 (p : PlR) : badP 0 p = wrongB (slotsOf 4) (sumOf 4) p := by
  unfold badP wrongB slotsOf sumOf belowB
  rw [if_pos rfl, if_pos rfl, Bool.eq_iff_iff]
  simp
  omega
theorem below_transM {a b c : World} (h : Below a.heap.size a b) (k : Below b.heap.size b c) : Below a.heap.size a c := h.trans (k.mono h.size)
theorem alone_split (N c s t : Int) (d : Bool) (n : Nat) : aloneB N c s t d n = (tagB N c && al4 s t d n) := rfl
set_option maxRecDepth 100000 in
set_option maxHeartbeats 16000000 in
theorem good_any (k : Int) (key : ByteArray) (N c s t : Int) (d : Bool) (sa : Option Addr) (sn sc : Nat) (pa : Option Addr) (pn pc : Nat) (P : Nat → PlR) (w : World) (hP : PlacesV w pa pn pc P) (hpn : pn ≤ 100000) :
    Calls Try.prog 30 #[.agg #[.int .i64 k, .string key, .int .i64 N, .int .i64 c, .int .i64 s, .int .i64 t, .bool d, .slice sa sn sc, .slice pa pn pc]] w fun e w' => e = .returned (.bool (rightB k key N c s t d sn P pn)) ∧ Below w.heap.size w w' := by
  obtain ⟨KB, hKB⟩ : ∃ b, b = keyB key.size := ⟨_, rfl⟩
  obtain ⟨MB, hMB⟩ : ∃ b, b = metaB N c s t d sn := ⟨_, rfl⟩
  obtain ⟨TB, hTB⟩ : ∃ b, b = tagB N c := ⟨_, rfl⟩
  obtain ⟨BA, hBA⟩ : ∃ b, b = al4 s t d sn := ⟨_, rfl⟩
  obtain ⟨SW, hSW⟩ : ∃ b, b = someWrong (slotsOf k) (sumOf k) P pn := ⟨_, rfl⟩
  obtain ⟨RB, hRB⟩ : ∃ b, b = rightB k key N c s t d sn P pn := ⟨_, rfl⟩
  rw [← hRB]
  have hR : RB = (fitsB k N c s t d sn pn && (KB && (decide ((pn : Int) ≤ 512) && !SW))) := by rw [hRB, hKB, hSW]; rfl
  have HRK := Lib.hid (show KB = false → RB = false from fun h => by rw [hR, h]; simp)
  have HRP := Lib.hid (show ¬ (pn : Int) ≤ 512 → RB = false from fun h => by rw [hR, decide_eq_false h]; simp)
  have HR1 := Lib.hid (show KB = true ∧ (pn : Int) ≤ 512 → k = 1 → RB = (MB && !d && !SW) from fun h e => by rw [hR, h.1, decide_eq_true h.2, hMB]; unfold fitsB; rw [if_pos e]; simp)
  have HR2 := Lib.hid (show KB = true ∧ (pn : Int) ≤ 512 → k = 2 → RB = (MB && decide ((pn : Int) = 0)) from fun h e => by
    rw [hR, h.1, decide_eq_true h.2, hMB]
    unfold fitsB
    rw [if_neg (by omega), if_pos e]
    by_cases h0 : (pn : Int) = 0
    · have : SW = false := by rw [hSW, show pn = 0 by omega]; rfl
      rw [this]; simp
    · rw [decide_eq_false h0]; simp)
  have HR34 := Lib.hid (show KB = true ∧ (pn : Int) ≤ 512 → (k = 3 ∨ k = 4) → RB = (TB && BA && decide (0 < (pn : Int)) && !SW) from fun h e => by
    rw [hR, h.1, decide_eq_true h.2, hTB, hBA]
    unfold fitsB
    rw [if_neg (by omega), if_neg (by omega), alone_split]
    rcases e with e | e
    · rw [if_pos e]; simp
    · rw [if_neg (by omega), if_pos e]; simp)
  have HRn := Lib.hid (show ¬ k = 1 → ¬ k = 2 → ¬ k = 3 → ¬ k = 4 → RB = false from fun q1 q2 q3 q4 => by rw [hR]; unfold fitsB; rw [if_neg q1, if_neg q2, if_neg q3, if_neg q4]; rfl)
  have HSW0 := Lib.hid hSW
  have KK := refKey_any key
  simp only [← hKB] at KK
  have KM := fun w => refRight_any N c s t d sa sn sc w
  simp only [← hMB] at KM
  have KT := fun w => refTag_any N c w
  simp only [← hTB] at KT
  have HBA := Lib.hid hBA
  have HP := Lib.hid hP
  obtain ⟨w1, hw1⟩ : ∃ x, x = w.alloc (.cells #[.int .i64 k, .string key, .int .i64 N, .int .i64 c, .int .i64 s, .int .i64 t, .bool d, .slice sa sn sc, .slice pa pn pc] RT9) := ⟨_, rfl⟩
  have b1 : Below w.heap.size w w1 := by rw [hw1]; exact below_alloc w _
  have h1 : w1.heap[w.heap.size]? = some (.cells #[.int .i64 k, .string key, .int .i64 N, .int .i64 c, .int .i64 s, .int .i64 t, .bool d, .slice sa sn sc, .slice pa pn pc] RT9 (0, 0)) := by rw [hw1]; exact heap_alloc_new w _
  have HC := Lib.hid (show ∀ w3, Below w1.heap.size w1 w3 → _ from fun w3 b3 => cells9M ((b3.block w.heap.size (Array.getElem?_eq_some_iff.1 h1).1).trans h1))
  have HW1 := Lib.hid hw1
  have HB1 := Lib.hid b1
  obtain ⟨c0, c1, c2, c3, c4, c5, c6, c7, c8⟩ := cells9M h1
  clear hKB hMB hTB hBA hSW hRB hR hP hw1 b1 h1
  go_enter Try.func30, Try.ntmps30
  go_upto_region 1 with fail
  rw [← HW1.out]
  cases KB
  · go_wp2_with fail
    (with_reducible refine (KK _).mono ?_)
    rintro e w2 ⟨rfl, rfl⟩
    go_wp2
    go_ret
    exact ⟨ret_boolM (HRK.out (by simp)).symm, HB1.out⟩
  by_cases h5 : (pn : Int) ≤ 512
  · have h5' : ¬ (512 : Int) < (pn : Int) := by omega
    replace HR1 := Lib.hid (HR1.out ⟨by simp, h5⟩)
    replace HR2 := Lib.hid (HR2.out ⟨by simp, h5⟩)
    replace HR34 := Lib.hid (HR34.out ⟨by simp, h5⟩)
    go_wp2_with fail
    (with_reducible refine (KK _).mono ?_)
    rintro e w2 ⟨rfl, rfl⟩
    clear h5 KK HRK HRP
    go_upto_region 3 with fail
    go_cut [3] (fun v wx => v = .bool BA ∧ w2 = wx)
    case first =>
      by_cases k0 : s = 0
      · have K0 := Lib.hid k0
        have e0 : (s == 0) = true := beq_iff_eq.2 k0
        clear k0
        by_cases k1 : t = 0
        · have K1 := Lib.hid k1
          have e1 : (t == 0) = true := beq_iff_eq.2 k1
          clear k1
          cases d
          · by_cases k3 : (sn : Int) = 0
            · have K3 := Lib.hid k3
              have e3 : ((sn : Int) == 0) = true := beq_iff_eq.2 k3
              clear k3
              go_wp2_with fail
              go_meet
              exact ⟨congrArg Value.bool (by rw [HBA.out]; unfold al4; simp [K0.out, K1.out, K3.out]), rfl⟩
            · have K3 := Lib.hid k3
              have e3 : ((sn : Int) == 0) = false := beq_eq_false_iff_ne.2 k3
              clear k3
              go_wp2_with fail
              go_meet
              exact ⟨congrArg Value.bool (by rw [HBA.out]; unfold al4; simp; intros; have := K3.out; omega), rfl⟩
          · go_wp2_with fail
            go_meet
            exact ⟨congrArg Value.bool (by rw [HBA.out]; unfold al4; simp [K0.out]), rfl⟩
        · have K1 := Lib.hid k1
          have e1 : (t == 0) = false := beq_eq_false_iff_ne.2 k1
          clear k1
          go_wp2_with fail
          go_meet
          exact ⟨congrArg Value.bool (by rw [HBA.out]; unfold al4; simp [K1.out]), rfl⟩
      · have K0 := Lib.hid k0
        have e0 : (s == 0) = false := beq_eq_false_iff_ne.2 k0
        clear k0
        go_wp2_with fail
        go_meet
        exact ⟨congrArg Value.bool (by rw [HBA.out]; unfold al4; simp [K0.out]), rfl⟩
    case rest =>
      obtain ⟨rfl, hw⟩ := hcut
      subst hw
      go_upto_block 0 with fail
      go_cut [4] (fun v wx => v = .int .i64 (sumOf k) ∧ Hid (RB = !SW) ∧ Hid (Below w2.heap.size w2 wx))
      case first =>
        by_cases q1 : k = 1
        · have hsum : sumOf k = 32 := by unfold sumOf; rw [if_neg (by omega)]
          have HSUM := Lib.hid hsum
          have HRR := Lib.hid (HR1.out q1)
          clear hsum
          obtain rfl := q1
          cases MB
          · go_wp2_with fail
            (with_reducible refine (KM _).mono ?_)
            rintro e w2 ⟨rfl, b2⟩
            have hb2 := Lib.hid (below_transM HB1.out b2)
            obtain ⟨c0, c1, c2, c3, c4, c5, c6, c7, c8⟩ := HC.out w2 b2
            have B2 := Lib.hid b2
            clear b2
            go_wp2
            go_ret
            exact ⟨ret_boolM (Eq.symm (by rw [HRR.out]; rfl)), hb2.out⟩
          · cases d
            · go_wp2_with fail
              (with_reducible refine (KM _).mono ?_)
              rintro e w2 ⟨rfl, b2⟩
              have hb2 := Lib.hid (below_transM HB1.out b2)
              obtain ⟨c0, c1, c2, c3, c4, c5, c6, c7, c8⟩ := HC.out w2 b2
              have B2 := Lib.hid b2
              clear b2
              go_wp2_with fail
              go_meet
              exact ⟨by rw [HSUM.out], Lib.hid (by rw [HRR.out]; rfl), B2⟩
            · go_wp2_with fail
              (with_reducible refine (KM _).mono ?_)
              rintro e w2 ⟨rfl, b2⟩
              have hb2 := Lib.hid (below_transM HB1.out b2)
              obtain ⟨c0, c1, c2, c3, c4, c5, c6, c7, c8⟩ := HC.out w2 b2
              have B2 := Lib.hid b2
              clear b2
              go_wp2
              go_ret
              exact ⟨ret_boolM (Eq.symm (by rw [HRR.out]; rfl)), hb2.out⟩
        by_cases q2 : k = 2
        · have HRR := Lib.hid (HR2.out q2)
          obtain rfl := q2
          cases MB
          · go_wp2_with fail
            (with_reducible refine (KM _).mono ?_)
            rintro e w2 ⟨rfl, b2⟩
            have hb2 := Lib.hid (below_transM HB1.out b2)
            obtain ⟨c0, c1, c2, c3, c4, c5, c6, c7, c8⟩ := HC.out w2 b2
            have B2 := Lib.hid b2
            clear b2
            go_wp2
            go_ret
            exact ⟨ret_boolM (Eq.symm (by rw [HRR.out]; rfl)), hb2.out⟩
          · by_cases h0 : (pn : Int) = 0
            · have e0 : ((pn : Int) == 0) = true := beq_iff_eq.2 h0
              have H0 := Lib.hid (decide_eq_true h0)
              clear h0
              go_wp2_with fail
              (with_reducible refine (KM _).mono ?_)
              rintro e w2 ⟨rfl, b2⟩
              have hb2 := Lib.hid (below_transM HB1.out b2)
              obtain ⟨c0, c1, c2, c3, c4, c5, c6, c7, c8⟩ := HC.out w2 b2
              have B2 := Lib.hid b2
              clear b2
              go_wp2
              go_ret
              exact ⟨ret_boolM (Eq.symm (by rw [HRR.out, H0.out]; rfl)), hb2.out⟩
            · have e0 : ((pn : Int) == 0) = false := beq_eq_false_iff_ne.2 h0
              have H0 := Lib.hid (decide_eq_false h0)
              clear h0
              go_wp2_with fail
              (with_reducible refine (KM _).mono ?_)
              rintro e w2 ⟨rfl, b2⟩
              have hb2 := Lib.hid (below_transM HB1.out b2)
              obtain ⟨c0, c1, c2, c3, c4, c5, c6, c7, c8⟩ := HC.out w2 b2
              have B2 := Lib.hid b2
              clear b2
              go_wp2
              go_ret
              exact ⟨ret_boolM (Eq.symm (by rw [HRR.out, H0.out]; rfl)), hb2.out⟩
        by_cases q3 : k = 3
        · have hr := HR34.out (by omega)
          have hsum : sumOf k = 32 := by unfold sumOf; rw [if_neg (by omega)]
          have HSUM := Lib.hid hsum
          have HRR := Lib.hid hr
          clear hsum hr
          obtain rfl := q3
          cases TB
          · go_wp2_with fail
            (with_reducible refine (KT _).mono ?_)
            rintro e w2 ⟨rfl, b2⟩
            have hb2 := Lib.hid (below_transM HB1.out b2)
            obtain ⟨c0, c1, c2, c3, c4, c5, c6, c7, c8⟩ := HC.out w2 b2
            have B2 := Lib.hid b2
            clear b2
            go_wp2
            go_ret
            exact ⟨ret_boolM (Eq.symm (by rw [HRR.out]; rfl)), hb2.out⟩
          · cases BA
            · go_wp2_with fail
              (with_reducible refine (KT _).mono ?_)
              rintro e w2 ⟨rfl, b2⟩
              have hb2 := Lib.hid (below_transM HB1.out b2)
              obtain ⟨c0, c1, c2, c3, c4, c5, c6, c7, c8⟩ := HC.out w2 b2
              have B2 := Lib.hid b2
              clear b2
              go_wp2
              go_ret
              exact ⟨ret_boolM (Eq.symm (by rw [HRR.out]; rfl)), hb2.out⟩
            · by_cases h0 : (pn : Int) = 0
              · have e0 : ((pn : Int) == 0) = true := beq_iff_eq.2 h0
                have H0 := Lib.hid (show decide (0 < (pn : Int)) = false from decide_eq_false (by omega))
                clear h0
                go_wp2_with fail
                (with_reducible refine (KT _).mono ?_)
                rintro e w2 ⟨rfl, b2⟩
                have hb2 := Lib.hid (below_transM HB1.out b2)
                obtain ⟨c0, c1, c2, c3, c4, c5, c6, c7, c8⟩ := HC.out w2 b2
                have B2 := Lib.hid b2
                clear b2
                go_wp2
                go_ret
                exact ⟨ret_boolM (Eq.symm (by rw [HRR.out, H0.out]; rfl)), hb2.out⟩
              · have e0 : ((pn : Int) == 0) = false := beq_eq_false_iff_ne.2 h0
                have H0 := Lib.hid (show decide (0 < (pn : Int)) = true from decide_eq_true (by omega))
                clear h0
                go_wp2_with fail
                (with_reducible refine (KT _).mono ?_)
                rintro e w2 ⟨rfl, b2⟩
                have hb2 := Lib.hid (below_transM HB1.out b2)
                obtain ⟨c0, c1, c2, c3, c4, c5, c6, c7, c8⟩ := HC.out w2 b2
                have B2 := Lib.hid b2
                clear b2
                go_wp2_with fail
                go_meet
                exact ⟨by rw [HSUM.out], Lib.hid (by rw [HRR.out, H0.out]; rfl), B2⟩
        by_cases q4 : k = 4
        · have hr := HR34.out (by omega)
          have hsum : sumOf k = 0 := by unfold sumOf; rw [if_pos q4]
          have HSUM := Lib.hid hsum
          have HRR := Lib.hid hr
          clear hsum hr
          obtain rfl := q4
          cases TB
          · go_wp2_with fail
            (with_reducible refine (KT _).mono ?_)
            rintro e w2 ⟨rfl, b2⟩
            have hb2 := Lib.hid (below_transM HB1.out b2)
            obtain ⟨c0, c1, c2, c3, c4, c5, c6, c7, c8⟩ := HC.out w2 b2
            have B2 := Lib.hid b2
            clear b2
            go_wp2
            go_ret
            exact ⟨ret_boolM (Eq.symm (by rw [HRR.out]; rfl)), hb2.out⟩
          · cases BA
            · go_wp2_with fail
              (with_reducible refine (KT _).mono ?_)
              rintro e w2 ⟨rfl, b2⟩
              have hb2 := Lib.hid (below_transM HB1.out b2)
              obtain ⟨c0, c1, c2, c3, c4, c5, c6, c7, c8⟩ := HC.out w2 b2
              have B2 := Lib.hid b2
              clear b2
              go_wp2
              go_ret
              exact ⟨ret_boolM (Eq.symm (by rw [HRR.out]; rfl)), hb2.out⟩
            · by_cases h0 : (pn : Int) = 0
              · have e0 : ((pn : Int) == 0) = true := beq_iff_eq.2 h0
                have H0 := Lib.hid (show decide (0 < (pn : Int)) = false from decide_eq_false (by omega))
                clear h0
                go_wp2_with fail
                (with_reducible refine (KT _).mono ?_)
                rintro e w2 ⟨rfl, b2⟩
                have hb2 := Lib.hid (below_transM HB1.out b2)
                obtain ⟨c0, c1, c2, c3, c4, c5, c6, c7, c8⟩ := HC.out w2 b2
                have B2 := Lib.hid b2
                clear b2
                go_wp2
                go_ret
                exact ⟨ret_boolM (Eq.symm (by rw [HRR.out, H0.out]; rfl)), hb2.out⟩
              · have e0 : ((pn : Int) == 0) = false := beq_eq_false_iff_ne.2 h0
                have H0 := Lib.hid (show decide (0 < (pn : Int)) = true from decide_eq_true (by omega))
                clear h0
                go_wp2_with fail
                (with_reducible refine (KT _).mono ?_)
                rintro e w2 ⟨rfl, b2⟩
                have hb2 := Lib.hid (below_transM HB1.out b2)
                obtain ⟨c0, c1, c2, c3, c4, c5, c6, c7, c8⟩ := HC.out w2 b2
                have B2 := Lib.hid b2
                clear b2
                go_wp2_with fail
                go_meet
                exact ⟨by rw [HSUM.out], Lib.hid (by rw [HRR.out, H0.out]; rfl), B2⟩
        have n1 : (k == 1) = false := beq_eq_false_iff_ne.2 q1
        have n2 : (k == 2) = false := beq_eq_false_iff_ne.2 q2
        have n3 : (k == 3) = false := beq_eq_false_iff_ne.2 q3
        have n4 : (k == 4) = false := beq_eq_false_iff_ne.2 q4
        have HRR := Lib.hid (HRn.out q1 q2 q3 q4)
        go_wp2
        go_ret
        exact ⟨ret_boolM HRR.out.symm, HB1.out⟩
      case rest =>
        rename World => wx
        obtain ⟨rfl, HRS, HBx⟩ := hcut
        clear KM KT HBA HR1 HR2 HR34 HRn c0 c1 c2 c3 c4 c5 c6 c7 c8
        obtain ⟨w1, hw12⟩ : ∃ x, x = w2 := ⟨_, rfl⟩
        subst hw12
        by_cases q4 : k = 4
        · have HSW := Lib.hid (show SW = false → ∀ j, j < pn → badP 0 (P j) = false from fun h j hj => by
            rw [badP_0, ← q4]; exact someWrong_false.1 (HSW0.out.symm.trans h) j hj)
          have HSN := Lib.hid (show (∀ j, j < pn → badP 0 (P j) = false) → SW = false from fun h => by
            rw [HSW0.out]; exact someWrong_false.2 fun j hj => by have := h j hj; rwa [badP_0, ← q4] at this)
          rw [show sumOf k = 0 by unfold sumOf; rw [if_pos q4]]
          clear HSW0 q4
          go_wp2_with fail
          go_loopw [5] (fun vi wr => ∃ i : Nat, i ≤ pn ∧ vi = .int .i64 (i : Nat) ∧ Hid (∀ j, j < i → badP 0 (P j) = false) ∧ Hid (Below w1.heap.size w1 wr)) (fun vi _ => (pn - intOf vi).toNat)
          case atStart => exact ⟨0, Nat.zero_le _, rfl, Lib.hid (fun j h => absurd h (Nat.not_lt_zero j)), HBx⟩
          case round =>
            clear HBx
            obtain ⟨i, hi, rfl, HZ, hBr⟩ := hrel
            obtain ⟨c0, c1, c2, c3, c4, c5, c6, c7, c8⟩ := HC.out wr hBr.out
            by_cases hlt : i < pn
            · obtain ⟨g, off, rfl, hlg, hat0⟩ := HP.out.row (by omega)
              have hat := (hat0 i hlt).below hlg (below_transM HB1.out hBr.out)
              obtain ⟨pl, hpl⟩ : ∃ p, p = P i := ⟨_, rfl⟩
              rw [← hpl] at hat
              obtain ⟨V, hV⟩ : ∃ V, V = badP 0 pl := ⟨_, rfl⟩
              have HPV := Lib.hid (show badP 0 (P i) = V by rw [hV, hpl])
              obtain ⟨pb, pe, ps, ⟨xa, xn, xc⟩, pm⟩ := pl
              obtain ⟨z0, z1, z2, z3, -⟩ := hat
              simp only at z0 z1 z2 z3
              have HVT := Lib.hid (show (pb < 0 ∨ 1023 < pb ∨ pe < 0 ∨ 16777216 ≤ pe ∨ ps < 0 ∨ 511 < ps ∨ (xn : Int) ≠ 0 ∨ ((0 : Int) = 0 ∧ ps ≠ 0)) → V = true from fun h => by rw [hV]; exact decide_eq_true h)
              have HVF := Lib.hid (show ¬ (pb < 0 ∨ 1023 < pb ∨ pe < 0 ∨ 16777216 ≤ pe ∨ ps < 0 ∨ 511 < ps ∨ (xn : Int) ≠ 0 ∨ ((0 : Int) = 0 ∧ ps ≠ 0)) → V = false from fun h => by rw [hV]; exact decide_eq_false h)
              have hpi : (i : Int) < (pn : Int) := by omega
              obtain ⟨v0, hv0⟩ : ∃ x, x = wr.alloc (.cells #[.int .i64 pb, .int .i64 pe, .int .i64 ps, .slice xa xn xc] PT4) := ⟨_, rfl⟩
              have hbq : Below wr.heap.size wr v0 := by rw [hv0]; exact below_alloc wr _
              have hq0 : v0.heap[wr.heap.size]? = some (.cells #[.int .i64 pb, .int .i64 pe, .int .i64 ps, .slice xa xn xc] PT4 (0, 0)) := by rw [hv0]; exact heap_alloc_new wr _
              obtain ⟨q0, q1, q2, q3⟩ := cells4M hq0
              have HV0 := Lib.hid hv0
              have HB5 := Lib.hid (below_transM hBr.out hbq)
              clear hat0 hpl hV hv0 hq0 hbq
              go_upto_region 23 with fail
              rw [← HV0.out]
              clear z0 z1 z2 z3 c0 c1 c2 c3 c4 c5 c6 c7 c8
              go_cut [153] (fun v wx => v = .bool V ∧ v0 = wx)
              case first =>
                by_cases k0 : pb < 0
                · go_wp2_with fail
                  go_meet
                  exact ⟨congrArg Value.bool (Eq.symm (HVT.out (by omega))), rfl⟩
                · by_cases k1 : 1023 < pb
                  · go_wp2_with fail
                    go_meet
                    exact ⟨congrArg Value.bool (Eq.symm (HVT.out (by omega))), rfl⟩
                  · by_cases k2 : pe < 0
                    · go_wp2_with fail
                      go_meet
                      exact ⟨congrArg Value.bool (Eq.symm (HVT.out (by omega))), rfl⟩
                    · by_cases k3 : 16777216 ≤ pe
                      · go_wp2_with fail
                        go_meet
                        exact ⟨congrArg Value.bool (Eq.symm (HVT.out (by omega))), rfl⟩
                      · by_cases k4 : ps < 0
                        · go_wp2_with fail
                          go_meet
                          exact ⟨congrArg Value.bool (Eq.symm (HVT.out (by omega))), rfl⟩
                        · by_cases k5 : 511 < ps
                          · go_wp2_with fail
                            go_meet
                            exact ⟨congrArg Value.bool (Eq.symm (HVT.out (by omega))), rfl⟩
                          · by_cases k6 : (xn : Int) = 0
                            · have K6 := Lib.hid k6
                              have e6 : ((xn : Int) != 0) = false := by simpa using k6
                              clear k6
                              by_cases k7 : ps = 0
                              · have K7 := Lib.hid k7
                                have e7 : (ps != 0) = false := by simpa using k7
                                clear k7
                                go_wp2_with fail
                                go_meet
                                exact ⟨congrArg Value.bool (Eq.symm (HVF.out (by have := K6.out; have := K7.out; omega))), rfl⟩
                              · have K7 := Lib.hid k7
                                have e7 : (ps != 0) = true := by simpa using k7
                                clear k7
                                go_wp2_with fail
                                go_meet
                                exact ⟨congrArg Value.bool (Eq.symm (HVT.out (.inr (.inr (.inr (.inr (.inr (.inr (.inr ⟨by simp, K7.out⟩))))))))), rfl⟩
                            · have K6 := Lib.hid k6
                              have e6 : ((xn : Int) != 0) = true := by simpa using k6
                              clear k6
                              go_wp2_with fail
                              go_meet
                              exact ⟨congrArg Value.bool (Eq.symm (HVT.out (by have := K6.out; omega))), rfl⟩
              case rest =>
                obtain ⟨rfl, hw⟩ := hcut
                subst hw
                cases V
                · go_wp2
                  go_roundw
                  case rel => exact ⟨i + 1, by omega, by go_num, Lib.hid (fun j hj => (by
                    by_cases e1 : j = i
                    · rw [e1]; exact HPV.out
                    · exact HZ.out j (by omega))), HB5⟩
                  case measure => simp [intOf]; omega
                · have hsw : SW = true := by
                    cases hb : SW with
                    | true => rfl
                    | false =>
                      have := HSW.out hb i hlt
                      rw [HPV.out] at this
                      cases this
                  have HSWW := Lib.hid hsw
                  clear hsw
                  go_wp2
                  go_ret
                  exact ⟨ret_boolM (by rw [HRS.out, HSWW.out]; rfl), below_transM HB1.out HB5.out⟩
            · obtain rfl : i = pn := by omega
              have hsw : SW = false := HSN.out HZ.out
              have HSWW := Lib.hid hsw
              clear hsw
              go_wp2
              go_ret
              exact ⟨ret_boolM (by rw [HRS.out, HSWW.out]; rfl), below_transM HB1.out hBr.out⟩
        · have HSW := Lib.hid (show SW = false → ∀ j, j < pn → badP 32 (P j) = false from fun h j hj => by
            rw [badP_32 q4]; exact someWrong_false.1 (HSW0.out.symm.trans h) j hj)
          have HSN := Lib.hid (show (∀ j, j < pn → badP 32 (P j) = false) → SW = false from fun h => by
            rw [HSW0.out]; exact someWrong_false.2 fun j hj => by have := h j hj; rwa [badP_32 q4] at this)
          rw [show sumOf k = 32 by unfold sumOf; rw [if_neg q4]]
          clear HSW0 q4
          go_wp2_with fail
          go_loopw [5] (fun vi wr => ∃ i : Nat, i ≤ pn ∧ vi = .int .i64 (i : Nat) ∧ Hid (∀ j, j < i → badP 32 (P j) = false) ∧ Hid (Below w1.heap.size w1 wr)) (fun vi _ => (pn - intOf vi).toNat)
          case atStart => exact ⟨0, Nat.zero_le _, rfl, Lib.hid (fun j h => absurd h (Nat.not_lt_zero j)), HBx⟩
          case round =>
            clear HBx
            obtain ⟨i, hi, rfl, HZ, hBr⟩ := hrel
            obtain ⟨c0, c1, c2, c3, c4, c5, c6, c7, c8⟩ := HC.out wr hBr.out
            by_cases hlt : i < pn
            · obtain ⟨g, off, rfl, hlg, hat0⟩ := HP.out.row (by omega)
              have hat := (hat0 i hlt).below hlg (below_transM HB1.out hBr.out)
              obtain ⟨pl, hpl⟩ : ∃ p, p = P i := ⟨_, rfl⟩
              rw [← hpl] at hat
              obtain ⟨V, hV⟩ : ∃ V, V = badP 32 pl := ⟨_, rfl⟩
              have HPV := Lib.hid (show badP 32 (P i) = V by rw [hV, hpl])
              obtain ⟨pb, pe, ps, ⟨xa, xn, xc⟩, pm⟩ := pl
              obtain ⟨z0, z1, z2, z3, -⟩ := hat
              simp only at z0 z1 z2 z3
              have HVT := Lib.hid (show (pb < 0 ∨ 1023 < pb ∨ pe < 0 ∨ 16777216 ≤ pe ∨ ps < 0 ∨ 511 < ps ∨ (xn : Int) ≠ 32 ∨ ((32 : Int) = 0 ∧ ps ≠ 0)) → V = true from fun h => by rw [hV]; exact decide_eq_true h)
              have HVF := Lib.hid (show ¬ (pb < 0 ∨ 1023 < pb ∨ pe < 0 ∨ 16777216 ≤ pe ∨ ps < 0 ∨ 511 < ps ∨ (xn : Int) ≠ 32 ∨ ((32 : Int) = 0 ∧ ps ≠ 0)) → V = false from fun h => by rw [hV]; exact decide_eq_false h)
              have hpi : (i : Int) < (pn : Int) := by omega
              obtain ⟨v0, hv0⟩ : ∃ x, x = wr.alloc (.cells #[.int .i64 pb, .int .i64 pe, .int .i64 ps, .slice xa xn xc] PT4) := ⟨_, rfl⟩
              have hbq : Below wr.heap.size wr v0 := by rw [hv0]; exact below_alloc wr _
              have hq0 : v0.heap[wr.heap.size]? = some (.cells #[.int .i64 pb, .int .i64 pe, .int .i64 ps, .slice xa xn xc] PT4 (0, 0)) := by rw [hv0]; exact heap_alloc_new wr _
              obtain ⟨q0, q1, q2, q3⟩ := cells4M hq0
              have HV0 := Lib.hid hv0
              have HB5 := Lib.hid (below_transM hBr.out hbq)
              clear hat0 hpl hV hv0 hq0 hbq
              go_upto_region 23 with fail
              rw [← HV0.out]
              clear z0 z1 z2 z3 c0 c1 c2 c3 c4 c5 c6 c7 c8
              go_cut [153] (fun v wx => v = .bool V ∧ v0 = wx)
              case first =>
                by_cases k0 : pb < 0
                · go_wp2_with fail
                  go_meet
                  exact ⟨congrArg Value.bool (Eq.symm (HVT.out (by omega))), rfl⟩
                · by_cases k1 : 1023 < pb
                  · go_wp2_with fail
                    go_meet
                    exact ⟨congrArg Value.bool (Eq.symm (HVT.out (by omega))), rfl⟩
                  · by_cases k2 : pe < 0
                    · go_wp2_with fail
                      go_meet
                      exact ⟨congrArg Value.bool (Eq.symm (HVT.out (by omega))), rfl⟩
                    · by_cases k3 : 16777216 ≤ pe
                      · go_wp2_with fail
                        go_meet
                        exact ⟨congrArg Value.bool (Eq.symm (HVT.out (by omega))), rfl⟩
                      · by_cases k4 : ps < 0
                        · go_wp2_with fail
                          go_meet
                          exact ⟨congrArg Value.bool (Eq.symm (HVT.out (by omega))), rfl⟩
                        · by_cases k5 : 511 < ps
                          · go_wp2_with fail
                            go_meet
                            exact ⟨congrArg Value.bool (Eq.symm (HVT.out (by omega))), rfl⟩
                          · by_cases k6 : (xn : Int) = 32
                            · have K6 := Lib.hid k6
                              have e6 : ((xn : Int) != 32) = false := by simpa using k6
                              clear k6
                              go_wp2_with fail
                              go_meet
                              exact ⟨congrArg Value.bool (Eq.symm (HVF.out (by have := K6.out; omega))), rfl⟩
                            · have K6 := Lib.hid k6
                              have e6 : ((xn : Int) != 32) = true := by simpa using k6
                              clear k6
                              go_wp2_with fail
                              go_meet
                              exact ⟨congrArg Value.bool (Eq.symm (HVT.out (by have := K6.out; omega))), rfl⟩
              case rest =>
                obtain ⟨rfl, hw⟩ := hcut
                subst hw
                cases V
                · go_wp2
                  go_roundw
                  case rel => exact ⟨i + 1, by omega, by go_num, Lib.hid (fun j hj => (by
                    by_cases e1 : j = i
                    · rw [e1]; exact HPV.out
                    · exact HZ.out j (by omega))), HB5⟩
                  case measure => simp [intOf]; omega
                · have hsw : SW = true := by
                    cases hb : SW with
                    | true => rfl
                    | false =>
                      have := HSW.out hb i hlt
                      rw [HPV.out] at this
                      cases this
                  have HSWW := Lib.hid hsw
                  clear hsw
                  go_wp2
                  go_ret
                  exact ⟨ret_boolM (by rw [HRS.out, HSWW.out]; rfl), below_transM HB1.out HB5.out⟩
            · obtain rfl : i = pn := by omega
              have hsw : SW = false := HSN.out HZ.out
              have HSWW := Lib.hid hsw
              clear hsw
              go_wp2
              go_ret
              exact ⟨ret_boolM (by rw [HRS.out, HSWW.out]; rfl), below_transM HB1.out hBr.out⟩
  · have h5' : (512 : Int) < (pn : Int) := by omega
    have H5 := Lib.hid (HRP.out h5)
    clear h5
    go_wp2_with fail
    (with_reducible refine (KK _).mono ?_)
    rintro e w2 ⟨rfl, rfl⟩
    go_wp2
    go_ret
    exact ⟨ret_boolM H5.out.symm, HB1.out⟩
end Go.Proofs.Ytikjcmijmhmilaa
