/-
  pieces compared; RqEncodes.
-/
import Derived.Test.YtkihgidhpggcfaaDoorMRq6
import Derived.Test.YtkihgidhpggcfaaDoorMRrO
namespace Go.Proofs.YtkihgidhpggcfaaDoor
open Go.RowKit

theorem PiV.drewN {w : World} {a : Option Addr} {n : Nat} {ps : List Pc} (h : PiV w a n ps) (m : Nat) : PiV (w.drewN m) a n ps := h.below (below_drewR (Below.refl _ _) m)
set_option maxRecDepth 100000 in
set_option maxHeartbeats 8000000 in
theorem samePieces_rd (a1 : Option Addr) (n1 c1 : Nat) (p1 : List Pc) (a2 : Option Addr) (n2 c2 : Nat) (p2 : List Pc) (w : World) (h1 : PiV w a1 n1 p1) (h2 : PiV w a2 n2 p2) (hn : n1 ≤ 100000) :
    Calls Tryd.prog 27 #[.slice a1 n1 c1, .slice a2 n2 c2] w fun e w' => e = .returned (.bool (decide (p1 = p2))) ∧ Below w.heap.size w w' := by
  have HL1 := Lib.hid h1.len
  have HL2 := Lib.hid h2.len
  have H1 := Lib.hid h1
  have H2 := Lib.hid h2
  obtain ⟨A, hA⟩ : ∃ A, A = decide (p1 = p2) := ⟨_, rfl⟩
  rw [← hA]
  have HA := Lib.hid hA
  clear h1 h2 hA
  by_cases hl : n1 = n2
  rotate_left 1
  · have hne : ((n1 : Int) != (n2 : Int)) = true := by rw [bne_iff_ne]; omega
    have HF := Lib.hid (show A = false by
      rw [HA.out]
      refine decide_eq_false fun e => hl ?_
      rw [← HL1.out, ← HL2.out, e])
    clear hl
    go_enter Tryd.func27, Tryd.ntmps27
    go_wp2
    go_ret
    rw [HF.out]
    exact ⟨rfl, Below.refl _ _⟩
  subst hl
  go_enter Tryd.func27, Tryd.ntmps27
  go_wp2_with fail
  go_loopw [5] (fun vi wr => ∃ (i : Nat), i ≤ n1 ∧ vi = .int .i64 (i : Nat) ∧ Hid (∀ j, j < i → p1[j]? = p2[j]?) ∧ Hid (Below w.heap.size w wr)) (fun vi _ => (n1 - intOf vi).toNat)
  case atStart => exact ⟨0, Nat.zero_le _, rfl, Lib.hid (fun j h => absurd h (Nat.not_lt_zero _)), Lib.hid (Below.refl _ _)⟩
  case round =>
    obtain ⟨i, hi, rfl, HZ, hB⟩ := hrel
    by_cases hlt : i < n1
    · obtain ⟨b1, o1, e1, x1, m1, d1, l1, rfl, q1, q2, hp1, hb1⟩ := H1.out.at hlt
      obtain ⟨b2, o2, e2, x2, m2, d2, l2, rfl, q3, q4, hp2, hb2⟩ := H2.out.at hlt
      have r1 := cell_below q1 hB.out
      have r2 := cell_below q2 hB.out
      have r3 := cell_below q3 hB.out
      have r4 := cell_below q4 hB.out
      have HP1 := Lib.hid hp1
      have HP2 := Lib.hid hp2
      have hi0 : (0 : Int) ≤ (i : Int) := by omega
      have hi1 : (i : Int) < (n1 : Int) := by omega
      obtain ⟨t, ht⟩ : ∃ t, t = decide (l1 = l2) := ⟨_, rfl⟩
      have hcall : ∀ m, Calls Tryd.prog 20 #[.slice x1 m1 d1, .slice x2 m2 d2] (wr.drewN m) fun e w' => e = .returned (.bool t) ∧ ∃ m', w' = (wr.drewN m).drewN m' := fun m => by
        rw [ht]; exact sameBytes_quiet x1 m1 d1 l1 x2 m2 d2 l2 _ ((hb1.below hB.out).drewN m) ((hb2.below hB.out).drewN m)
      have HC := Lib.hid hcall
      have HT := Lib.hid ht
      clear q1 q2 q3 q4 hp1 hp2 hb1 hb2 hcall ht
      by_cases he : e1 = e2
      · subst he
        have hef : (e1 != e1) = false := by simp
        cases t with
        | true =>
          have HQ := Lib.hid (show p1[i]? = p2[i]? by rw [HP1.out, HP2.out, of_decide_eq_true HT.out.symm])
          go_wp2_with fail
          go_quiet ((go_at_call 20; exact Calls.quiet_of (HC.out _)))
          go_wp2
          go_roundw
          case rel => exact ⟨i + 1, by omega, by go_num, Lib.hid (fun j hj => by
            by_cases e : j = i
            · rw [e]; exact HQ.out
            · exact HZ.out j (by omega)), Lib.hid (below_drewR hB.out _)⟩
          case measure => simp [intOf] <;> omega
        | false =>
          have HF := Lib.hid (show A = false by
            rw [HA.out]
            refine decide_eq_false fun e => of_decide_eq_false HT.out.symm ?_
            have hh := HP1.out
            rw [e, HP2.out] at hh
            injection hh with hh
            injection hh with _ hh
            exact hh.symm)
          go_wp2_with fail
          go_quiet ((go_at_call 20; exact Calls.quiet_of (HC.out _)))
          go_wp2
          go_ret
          rw [HF.out]
          exact ⟨rfl, below_drewR hB.out _⟩
      · have hef : (e1 != e2) = true := by rw [bne_iff_ne]; exact he
        have HF := Lib.hid (show A = false by
          rw [HA.out]
          refine decide_eq_false fun e => he ?_
          have hh := HP1.out
          rw [e, HP2.out] at hh
          injection hh with hh
          injection hh with hh _
          exact hh.symm)
        clear he
        go_wp2_with fail
        go_quiet ((go_at_call 20; exact Calls.quiet_of (HC.out _)))
        go_wp2
        go_ret
        rw [HF.out]
        exact ⟨rfl, below_drewR hB.out _⟩
    · obtain rfl : i = n1 := by omega
      have HF := Lib.hid (show A = true by
        rw [HA.out]
        refine decide_eq_true (List.ext_getElem? fun j => ?_)
        by_cases hj : j < i
        · exact HZ.out j hj
        · rw [List.getElem?_eq_none (by rw [HL1.out]; omega), List.getElem?_eq_none (by rw [HL2.out]; omega)])
      go_wp2
      go_ret
      rw [HF.out]
      exact ⟨rfl, hB.out⟩
end Go.Proofs.YtkihgidhpggcfaaDoor
