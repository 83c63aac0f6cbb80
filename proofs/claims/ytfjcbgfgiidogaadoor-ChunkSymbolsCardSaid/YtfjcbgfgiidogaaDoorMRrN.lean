/-
  rillref04: Inner.
-/
import Derived.Test.YtfjcbgfgiidogaaDoorMRqT
import Derived.Test.YtfjcbgfgiidogaaDoorMRrM
namespace Go.Proofs.YtfjcbgfgiidogaaDoor
open Go.RowKit

set_option maxRecDepth 100000 in
set_option maxHeartbeats 8000000 in
theorem refInner_rd (sa : Option Addr) (sn sc : Nat) (src : List (List Nat)) (w : World) (h : RD w sa sn src) : Calls Tryd.prog 57 #[.slice sa sn sc] w (GivesR w (innerR src)) := by
  have hel : src.length = sn := h.1
  have HEL := Lib.hid hel
  have HS := Lib.hid h
  unfold innerR innerS
  rw [hel]
  by_cases h1 : 1 ≤ sn
  rotate_left 1
  · rw [if_neg (fun e => h1 (by have := (okK_iff.1 e).1; omega))]
    clear h hel
    go_enter Tryd.func57, Tryd.ntmps57
    go_wp2
    go_ret2
    exact givesR_nil (Below.refl _ _)
  by_cases hk : sn ≤ 32
  rotate_left 1
  · rw [if_neg (fun e => hk (by have := (okK_iff.1 e).2; omega))]
    clear h hel
    go_enter Tryd.func57, Tryd.ntmps57
    go_wp2
    go_ret2
    exact givesR_nil (Below.refl _ _)
  rw [if_pos (okK_iff.2 ⟨by omega, by omega⟩)]
  obtain ⟨b, off, xa, t, xc, l0, rfl, hc0, hl0, hB0⟩ := h.at (i := 0) (by omega)
  rw [Nat.add_zero] at hc0
  have HL0 := Lib.hid hl0
  have HLL := Lib.hid (show l0.length = t from hB0.length)
  have hwt : widthB src = t := by unfold widthB; rw [List.getD_eq_getElem?_getD, HL0.out]; exact HLL.out
  rw [hwt]
  have i0' : (0 : Int) < (sn : Int) := by omega
  have i00 : 0 < sn := h1
  clear h hel hl0 hB0
  by_cases ht1 : 1 ≤ t
  rotate_left 1
  · rw [if_neg (fun e => ht1 e.1)]
    go_enter Tryd.func57, Tryd.ntmps57
    go_wp2
    go_ret2
    exact givesR_nil (Below.refl _ _)
  by_cases ht2 : t ≤ 64
  rotate_left 1
  · rw [if_neg (fun e => ht2 e.2)]
    go_enter Tryd.func57, Tryd.ntmps57
    go_wp2
    go_ret2
    exact givesR_nil (Below.refl _ _)
  rw [if_pos ⟨ht1, ht2⟩]
  obtain ⟨OUT, hO⟩ : ∃ O, O = (if evenB src ((t : Nat) : Int) = true then solveR ((cL sn : Nat) : Int) (fixedL sn ++ placesL sn sn) (List.replicate (cL sn - sn) (zs t) ++ src) else ([], 41)) := ⟨_, rfl⟩
  rw [← hO]
  have HOUT := Lib.hid hO
  clear hO hwt
  go_enter Tryd.func57, Tryd.ntmps57
  go_wp2_with fail
  go_loopw [5] (fun vi wr => ∃ (i : Nat), i ≤ sn ∧ vi = .int .i64 (i : Nat) ∧ Hid (Below w.heap.size w wr) ∧ Hid (∀ (j : Nat) l, j < i → src[j]? = some l → l.length = t)) (fun vi _ => (sn - intOf vi).toNat)
  case atStart => exact ⟨0, Nat.zero_le _, rfl, Lib.hid (Below.refl _ _), Lib.hid (fun j e h => absurd h (Nat.not_lt_zero _))⟩
  case round =>
    obtain ⟨i, hi, rfl, hB, HZ⟩ := hrel
    have hc1 := cell_below hc0 hB.out
    by_cases hlt : i < sn
    · obtain ⟨b', off', ya, yn, yc, l, e, hcl, hl, hBl⟩ := HS.out.at hlt
      injection e with e
      injection e with e1 e2
      subst e1 e2
      have hc := cell_below hcl hB.out
      have HL := Lib.hid hl
      have HLY := Lib.hid (show l.length = yn from hBl.length)
      clear hcl hl hBl
      by_cases h0 : yn = t
      · have h0' : ((yn : Int) != (t : Int)) = false := by simp [h0]
        have H0 := Lib.hid h0
        clear h0
        go_wp2
        go_quiet (fail)
        go_wp2
        go_roundw
        case rel => exact ⟨i + 1, by omega, by go_num, Lib.hid (below_drewR hB.out _), Lib.hid (fun j l' hj hl' => (by
          by_cases e : j = i
          · rw [e, HL.out] at hl'
            rw [← Option.some.inj hl', HLY.out]; exact H0.out
          · exact HZ.out j l' (by omega) hl'))⟩
        case measure => simp [intOf] <;> omega
      · have h0' : ((yn : Int) != (t : Int)) = true := by simp; omega
        have HO2 := Lib.hid (show OUT = ([], 41) by
          rw [HOUT.out, if_neg]
          intro e
          have := evenB_iff.1 e l (List.mem_of_getElem? HL.out)
          rw [show l.length = yn from HLY.out] at this
          omega)
        clear h0
        go_wp2
        go_quiet (fail)
        go_wp2
        go_ret2
        rw [HO2.out]
        exact givesR_nil (below_drewR hB.out _)
    · obtain rfl : i = sn := by omega
      have HO2 := Lib.hid (show OUT = solveR ((cL i : Nat) : Int) (fixedL i ++ placesL i i) (List.replicate (cL i - i) (zs t) ++ src) by
        rw [HOUT.out, if_pos]
        refine evenB_iff.2 fun x hx => ?_
        obtain ⟨j, hj⟩ := List.getElem?_of_mem hx
        have := HZ.out j x (by have := (List.getElem?_eq_some_iff.1 hj).1; rw [HEL.out] at this; exact this) hj
        omega)
      have K1 := fun W => refRows_own i W h1 hk
      have K2 := fun g c W hr hs => refSolve4_rd i t ⟨g, 0, none⟩ i c (placesL i i) ⟨b, off, none⟩ i sc src W h1 hk ht2 hr hs (by omega) rfl (placesL_all i i)
      rw [← HO2.out] at K2
      have HX := Lib.hid (HS.out.below hB.out)
      have hsz := hB.out.size
      clear hi hlt HZ HOUT
      go_wp2_with fail
      go_region_held3 (fun w' => w'.cell? ⟨b, off, none⟩ = some (.slice xa t xc)) (first | exact hc1 | exact hc5 | exact hc6)
        (first
          | (go_at_call 71; (with_reducible refine (K1 _).mono ?_); rintro e w5 ⟨g5, c5, rfl, h5, d5⟩; have b5 : Below wr.heap.size wr w5 := ⟨d5.os, d5.tape, d5.output, d5.size, d5.block⟩; have hc5 := cell_below hc1 b5)
          | (go_at_call 69; (with_reducible refine (K2 _ _ _ h5 ?hh).mono ?_); (case hh => exact HX.out.below b5); rintro e w6 ⟨a6, c6, rfl, h6, d6⟩; have b6 := b5.trans (d6.mono b5.size); have hc6 := cell_below hc1 b6))
      all_goals
        go_wp2
        go_ret2
        exact ⟨a6, c6, rfl, h6, hB.out.trans (b6.mono hsz)⟩
end Go.Proofs.YtfjcbgfgiidogaaDoor
