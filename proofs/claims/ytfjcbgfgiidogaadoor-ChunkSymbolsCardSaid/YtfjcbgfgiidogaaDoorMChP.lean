/-
  symbols compared, symbols copied.
-/
import Derived.Test.YtfjcbgfgiidogaaDoorMCh3
import Derived.Test.YtfjcbgfgiidogaaDoorMCh4
namespace Go.Proofs.YtfjcbgfgiidogaaDoor
open Go.RowKit

theorem SyV.drewN {w : World} {a : Option Addr} {n : Nat} {ss : List Sy} (h : SyV w a n ss) (m : Nat) : SyV (w.drewN m) a n ss := h.below (below_drewNi (Below.refl _ _) m)
set_option maxRecDepth 100000 in
set_option maxHeartbeats 8000000 in
theorem sameSyms_rd (a1 : Option Addr) (n1 c1 : Nat) (p1 : List Sy) (a2 : Option Addr) (n2 c2 : Nat) (p2 : List Sy) (w : World) (h1 : SyV w a1 n1 p1) (h2 : SyV w a2 n2 p2) (hn : n1 ≤ 100000) :
    Calls Tryd.prog 26 #[.slice a1 n1 c1, .slice a2 n2 c2] w fun e w' => e = .returned (.bool (decide (p1 = p2))) ∧ Below w.heap.size w w' := by
  have HL1 := Lib.hid h1.len
  have HL2 := Lib.hid h2.len
  have H1 := Lib.hid h1
  have H2 := Lib.hid h2
  obtain ⟨A, hA⟩ : ∃ A, A = decide (p1 = p2) := ⟨_, rfl⟩
  rw [← hA]
  have HA := Lib.hid hA
  clear h1 h2 hA
  by_cases hl : n1 = n2
  rotate_left 1
  · have hne : ((n1 : Int) != (n2 : Int)) = true := by rw [bne_iff_ne]; omega
    have HF := Lib.hid (show A = false by
      rw [HA.out]
      refine decide_eq_false fun e => hl ?_
      rw [← HL1.out, ← HL2.out, e])
    clear hl
    go_enter Tryd.func26, Tryd.ntmps26
    go_wp2
    go_ret
    rw [HF.out]
    exact ⟨rfl, Below.refl _ _⟩
  subst hl
  go_enter Tryd.func26, Tryd.ntmps26
  go_wp2_with fail
  go_loopw [5] (fun vi wr => ∃ (i : Nat), i ≤ n1 ∧ vi = .int .i64 (i : Nat) ∧ Hid (∀ j, j < i → p1[j]? = p2[j]?) ∧ Hid (Below w.heap.size w wr)) (fun vi _ => (n1 - intOf vi).toNat)
  case atStart => exact ⟨0, Nat.zero_le _, rfl, Lib.hid (fun j h => absurd h (Nat.not_lt_zero _)), Lib.hid (Below.refl _ _)⟩
  case round =>
    obtain ⟨i, hi, rfl, HZ, hB⟩ := hrel
    by_cases hlt : i < n1
    · obtain ⟨b1, o1, z1, e1, x1, m1, d1, l1, rfl, q0, q1, q2, hp1, hb1⟩ := H1.out.at hlt
      obtain ⟨b2, o2, z2, e2, x2, m2, d2, l2, rfl, q5, q3, q4, hp2, hb2⟩ := H2.out.at hlt
      have r0 := cell_below q0 hB.out
      have r5 := cell_below q5 hB.out
      have r1 := cell_below q1 hB.out
      have r2 := cell_below q2 hB.out
      have r3 := cell_below q3 hB.out
      have r4 := cell_below q4 hB.out
      have HP1 := Lib.hid hp1
      have HP2 := Lib.hid hp2
      have hi0 : (0 : Int) ≤ (i : Int) := by omega
      have hi1 : (i : Int) < (n1 : Int) := by omega
      obtain ⟨t, ht⟩ : ∃ t, t = decide (l1 = l2) := ⟨_, rfl⟩
      have hcall : ∀ m, Calls Tryd.prog 21 #[.slice x1 m1 d1, .slice x2 m2 d2] (wr.drewN m) fun e w' => e = .returned (.bool t) ∧ ∃ m', w' = (wr.drewN m).drewN m' := fun m => by
        rw [ht]; exact sameBytes_quiet x1 m1 d1 l1 x2 m2 d2 l2 _ ((hb1.below hB.out).drewN m) ((hb2.below hB.out).drewN m)
      have HC := Lib.hid hcall
      have HT := Lib.hid ht
      clear q0 q1 q2 q3 q4 q5 hp1 hp2 hb1 hb2 hcall ht
      by_cases hz : z1 = z2
      · subst hz
        have hzf : (z1 != z1) = false := by simp
        by_cases he : e1 = e2
        · subst he
          have hef : (e1 != e1) = false := by simp
          cases t with
          | true =>
            have HQ := Lib.hid (show p1[i]? = p2[i]? by rw [HP1.out, HP2.out, of_decide_eq_true HT.out.symm])
            go_wp2_with fail
            go_quiet ((go_at_call 21; exact Calls.quiet_of (HC.out _)))
            go_wp2
            go_roundw
            case rel => exact ⟨i + 1, by omega, by go_num, Lib.hid (fun j hj => by
              by_cases e : j = i
              · rw [e]; exact HQ.out
              · exact HZ.out j (by omega)), Lib.hid (below_drewNi hB.out _)⟩
            case measure => simp [intOf] <;> omega
          | false =>
            have HF := Lib.hid (show A = false by
              rw [HA.out]
              refine decide_eq_false fun e => of_decide_eq_false HT.out.symm ?_
              have hh := HP1.out
              rw [e, HP2.out] at hh
              simp only [Option.some.injEq, Prod.mk.injEq] at hh
              exact hh.2.2.symm)
            go_wp2_with fail
            go_quiet ((go_at_call 21; exact Calls.quiet_of (HC.out _)))
            go_wp2
            go_ret
            rw [HF.out]
            exact ⟨rfl, below_drewNi hB.out _⟩
        · have hef : (e1 != e2) = true := by rw [bne_iff_ne]; exact he
          have HF := Lib.hid (show A = false by
            rw [HA.out]
            refine decide_eq_false fun e => he ?_
            have hh := HP1.out
            rw [e, HP2.out] at hh
            simp only [Option.some.injEq, Prod.mk.injEq] at hh
            exact hh.2.1.symm)
          clear he
          go_wp2_with fail
          go_quiet ((go_at_call 21; exact Calls.quiet_of (HC.out _)))
          go_wp2
          go_ret
          rw [HF.out]
          exact ⟨rfl, below_drewNi hB.out _⟩
      · have hzf : (z1 != z2) = true := by rw [bne_iff_ne]; exact hz
        have HF := Lib.hid (show A = false by
          rw [HA.out]
          refine decide_eq_false fun e => hz ?_
          have hh := HP1.out
          rw [e, HP2.out] at hh
          simp only [Option.some.injEq, Prod.mk.injEq] at hh
          exact hh.1.symm)
        clear hz
        go_wp2_with fail
        go_quiet ((go_at_call 21; exact Calls.quiet_of (HC.out _)))
        go_wp2
        go_ret
        rw [HF.out]
        exact ⟨rfl, below_drewNi hB.out _⟩
    · obtain rfl : i = n1 := by omega
      have HF := Lib.hid (show A = true by
        rw [HA.out]
        refine decide_eq_true (List.ext_getElem? fun j => ?_)
        by_cases hj : j < i
        · exact HZ.out j hj
        · rw [List.getElem?_eq_none (by rw [HL1.out]; omega), List.getElem?_eq_none (by rw [HL2.out]; omega)])
      go_wp2
      go_ret
      rw [HF.out]
      exact ⟨rfl, hB.out⟩

theorem OwnS.startS {w : World} {B : Nat} {a : Option Addr} {c : Nat} (h : w.ownsRow B ST3 3 (.slice a 0 c) 0 []) : OwnS w B a 0 c [] := ⟨rfl, [], rfl, h, fun i x p h => by simp at h⟩
theorem OwnS.madeS {w : World} {B : Nat} (hB : B ≤ w.heap.size) : OwnS (w.alloc (.cells #[] ST3)) B (some ⟨w.heap.size, 0, none⟩) 0 0 [] :=
  .startS (World.ownsRow_made (base := B) (e := ST3) (size := 3) w #[] 0 hB (by simp [maxLen]) rfl)
theorem sy_append {wm w' : World} {B n : Nat} {a : Option Addr} {c : Nat} {xs : List SH} {ss : List Sy} {z e : Int} {y : HdT} {l : List Nat} (h2 : xs.length = n) (h1 : ss.length = n) (h3 : wm.ownsRow B ST3 3 (.slice a n c) n (scells xs))
    (h4 : ∀ (i : Nat) x p, xs[i]? = some x → ss[i]? = some p → x.1 = p.1 ∧ x.2.1 = p.2.1 ∧ x.2.2.2.1 = p.2.2.length ∧ wm.ownsRow B 5 1 (SV x.2.2) p.2.2.length (p.2.2.map bv) ∧ Bytes p.2.2 ∧ p.2.2.length ≤ 140737488355328)
    (hy : wm.ownsRow B 5 1 (SV y) l.length (l.map bv)) (hyl : y.2.1 = l.length) (hl : Bytes l ∧ l.length ≤ 140737488355328) {g cap : Nat}
    (hE : w'.ownsRow B ST3 3 (.slice (some ⟨g, 0, none⟩) (n + 1) cap) (n + 1) (scells xs ++ [.int .i64 z, .int .i64 e, SV y])) (hg : wm.grownBy w' (Value.slice a n c).ownBlock) : OwnS w' B (some ⟨g, 0, none⟩) (n + 1) cap (ss ++ [(z, e, l)]) := by
  have key : ∀ {x : HdT} {m : List Nat}, wm.ownsRow B 5 1 (SV x) m.length (m.map bv) → w'.ownsRow B 5 1 (SV x) m.length (m.map bv) := fun k => k.kept hg (own_ne k h3 (by decide))
  refine ⟨by simp [h1], xs ++ [(z, e, y)], by simp [h2], by rw [scells_append]; exact hE, fun i x p a b => ?_⟩
  by_cases hi : i < n
  · rw [List.getElem?_append_left (by omega)] at a
    rw [List.getElem?_append_left (by omega)] at b
    obtain ⟨k0, k1, k2, k3, k4, k5⟩ := h4 i x p a b
    exact ⟨k0, k1, k2, key k3, k4, k5⟩
  · rw [List.getElem?_append_right (by omega)] at a
    rw [List.getElem?_append_right (by omega), h1, ← h2] at b
    have hi0 := (List.getElem?_eq_some_iff.1 a).1
    simp only [List.length_cons, List.length_nil] at hi0
    have e0 : i - xs.length = 0 := by omega
    rw [e0] at a b
    simp at a b
    subst a b
    exact ⟨rfl, rfl, hyl, key hy, hl⟩
end Go.Proofs.YtfjcbgfgiidogaaDoor
