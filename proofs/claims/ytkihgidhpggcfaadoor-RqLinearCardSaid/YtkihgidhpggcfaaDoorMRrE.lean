/-
  rilllaw04: source draws, and does no more.
-/
import Derived.Test.YtkihgidhpggcfaaDoorMRrA
namespace Go.Proofs.YtkihgidhpggcfaaDoor
open Go.RowKit

set_option maxRecDepth 100000 in
set_option maxHeartbeats 2000000 in
theorem source_quiet (a : Option Addr) (n c : Nat) (src : List (List Nat)) (w : World) (h : RD w a n src) (hn : n ≤ 140737488355328) :
    Calls Tryd.prog 34 #[.slice a n c] w fun e w' => e = .returned (.bool (srcB src)) ∧ ∃ q, w' = w.drewN q := by
  have HLS := Lib.hid h.1
  have H := Lib.hid h
  have HM := Lib.hid h.mem
  clear h
  by_cases h1 : 1 ≤ n
  rotate_left 1
  · go_enter Tryd.func34, Tryd.ntmps34
    go_wp2
    go_ret
    exact ⟨by rw [src_no1 (by rw [HLS.out]; omega)]; rfl, 0, rfl⟩
  by_cases h2 : n ≤ 32
  rotate_left 1
  · go_enter Tryd.func34, Tryd.ntmps34
    go_wp2
    go_ret
    exact ⟨by rw [src_no2 (by rw [HLS.out]; omega)]; rfl, 0, rfl⟩
  obtain ⟨b, off, xa, t, xc, l0, rfl, hc0, hl0, hB0⟩ := H.out.at (i := 0) (by omega)
  rw [Nat.add_zero] at hc0
  have HL0 := Lib.hid hl0
  have HLL := Lib.hid (show l0.length = t from hB0.length)
  have HWI := Lib.hid (show widthB src = t by unfold widthB; rw [List.getD_eq_getElem?_getD, HL0.out]; exact HLL.out)
  have i0' : (0 : Int) < (n : Int) := by omega
  clear hl0 hB0
  by_cases h3 : 1 ≤ t
  rotate_left 1
  · go_enter Tryd.func34, Tryd.ntmps34
    go_wp2
    go_ret
    exact ⟨by rw [src_no3 (by rw [HWI.out]; omega)]; rfl, 0, rfl⟩
  by_cases h4 : t ≤ 64
  rotate_left 1
  · go_enter Tryd.func34, Tryd.ntmps34
    go_wp2
    go_ret
    exact ⟨by rw [src_no4 (by rw [HWI.out]; omega)]; rfl, 0, rfl⟩
  go_enter Tryd.func34, Tryd.ntmps34
  go_wp2_with fail
  go_loopw [3] (fun i wr => ∃ m : Nat, 1 ≤ m ∧ m ≤ n ∧ i = .int .i64 (m : Nat) ∧ Hid (∀ j l, j < m → src[j]? = some l → l.length = t) ∧ Hid (∃ q, wr = w.drewN q)) (fun i _ => (n - intOf i).toNat)
  case atStart =>
    refine ⟨1, Nat.le_refl _, h1, rfl, Lib.hid (fun j l hj hl => ?_), Lib.hid ⟨0, rfl⟩⟩
    obtain rfl : j = 0 := by omega
    rw [HL0.out] at hl
    rw [← Option.some.inj hl]; exact HLL.out
  case round =>
    obtain ⟨m, hm1, hm, rfl, HZ, HQ⟩ := hrel
    have hb : Below w.heap.size w wr := by obtain ⟨q, rfl⟩ := HQ.out; exact below_drewNi (Below.refl _ _) _
    by_cases hlt : m < n
    · obtain ⟨b', off', ya, yn, yc, l, e, hc1, hl, hB⟩ := H.out.at hlt
      injection e with e
      injection e with e1 e2
      subst e1 e2
      have HL := Lib.hid hl
      have HLY := Lib.hid (show l.length = yn from hB.length)
      have hc := cell_below hc1 hb
      have hd := cell_below hc0 hb
      clear hl hB hc1
      by_cases h0 : yn = t
      · have h0' : ((yn : Int) != (t : Int)) = false := by simp [h0]
        have H0 := Lib.hid h0
        clear h0
        go_wp2
        go_quiet (fail)
        go_wp2
        go_roundw
        case rel => exact ⟨m + 1, by omega, by omega, by go_num, Lib.hid (fun j l' hj hl' => (by
          by_cases e : j = m
          · rw [e, HL.out] at hl'
            rw [← Option.some.inj hl', HLY.out]; exact H0.out
          · exact HZ.out j l' (by omega) hl')), Lib.hid (by obtain ⟨q, hq⟩ := HQ.out; exact ⟨q + nq, by rw [hq, World.drewN_drewN]⟩)⟩
        case measure => simp [intOf] <;> omega
      · have h0' : ((yn : Int) != (t : Int)) = true := by simp; omega
        go_wp2
        go_quiet (fail)
        go_wp2
        go_ret
        exact ⟨by rw [src_no5 HL.out (by rw [HWI.out, HLY.out]; omega)]; rfl, by obtain ⟨q, hq⟩ := HQ.out; exact ⟨q + nq, by rw [hq, World.drewN_drewN]⟩⟩
    · obtain rfl : m = n := by omega
      go_wp2
      go_ret
      exact ⟨by rw [src_yes (by rw [HLS.out]; exact h1) (by rw [HLS.out]; exact h2) (by rw [HWI.out]; exact h3) (by rw [HWI.out]; exact h4) (fun r hr => by
        obtain ⟨j, hj⟩ := List.getElem?_of_mem hr
        rw [HWI.out]
        exact HZ.out j r (by have := (List.getElem?_eq_some_iff.1 hj).1; rw [HLS.out] at this; exact this) hj)]; rfl, HQ.out⟩
end Go.Proofs.YtkihgidhpggcfaaDoor
