/-
  rilllaw04: RqLinear.
-/
import Derived.Test.YtkihgidhpggcfaaDoorMRqX
namespace Go.Proofs.YtkihgidhpggcfaaDoor
open Go.RowKit

/-- are these symbols a source? as a law asks it. -/
def srcB (src : List (List Nat)) : Bool := decide (1 ≤ src.length ∧ src.length ≤ 32 ∧ 1 ≤ widthB src ∧ widthB src ≤ 64 ∧ ∀ r ∈ src, r.length = widthB src)
theorem src_no1 {src : List (List Nat)} (h : ¬ 1 ≤ src.length) : srcB src = false := decide_eq_false fun e => h e.1
theorem src_no2 {src : List (List Nat)} (h : ¬ src.length ≤ 32) : srcB src = false := decide_eq_false fun e => h e.2.1
theorem src_no3 {src : List (List Nat)} (h : ¬ 1 ≤ widthB src) : srcB src = false := decide_eq_false fun e => h e.2.2.1
theorem src_no4 {src : List (List Nat)} (h : ¬ widthB src ≤ 64) : srcB src = false := decide_eq_false fun e => h e.2.2.2.1
theorem src_no5 {src : List (List Nat)} {i : Nat} {l : List Nat} (hi : src[i]? = some l) (h : l.length ≠ widthB src) : srcB src = false := decide_eq_false fun e => h (e.2.2.2.2 l (List.mem_of_getElem? hi))
theorem src_yes {src : List (List Nat)} (h1 : 1 ≤ src.length) (h2 : src.length ≤ 32) (h3 : 1 ≤ widthB src) (h4 : widthB src ≤ 64) (h5 : ∀ r ∈ src, r.length = widthB src) : srcB src = true := decide_eq_true ⟨h1, h2, h3, h4, h5⟩
theorem src_ok {src : List (List Nat)} (hm : Mem src) (h : srcB src = true) : SrcOK src src.length (widthB src) := by
  obtain ⟨h1, h2, h3, h4, h5⟩ := of_decide_eq_true h
  exact ⟨rfl, h1, h2, h3, h4, fun r hr => ⟨(hm r hr).1, h5 r hr⟩⟩
set_option maxRecDepth 100000 in
set_option maxHeartbeats 2000000 in
theorem source_is (a : Option Addr) (n c : Nat) (src : List (List Nat)) (w : World) (h : RD w a n src) (hn : n ≤ 140737488355328) :
    Calls Tryd.prog 34 #[.slice a n c] w fun e w' => e = .returned (.bool (srcB src)) ∧ Below w.heap.size w w' := by
  have HLS := Lib.hid h.1
  have H := Lib.hid h
  have HM := Lib.hid h.mem
  clear h
  by_cases h1 : 1 ≤ n
  rotate_left 1
  · go_enter Tryd.func34, Tryd.ntmps34
    go_wp2
    go_ret
    exact ⟨by rw [src_no1 (by rw [HLS.out]; omega)]; rfl, Below.refl _ _⟩
  by_cases h2 : n ≤ 32
  rotate_left 1
  · go_enter Tryd.func34, Tryd.ntmps34
    go_wp2
    go_ret
    exact ⟨by rw [src_no2 (by rw [HLS.out]; omega)]; rfl, Below.refl _ _⟩
  obtain ⟨b, off, xa, t, xc, l0, rfl, hc0, hl0, hB0⟩ := H.out.at (i := 0) (by omega)
  rw [Nat.add_zero] at hc0
  have HL0 := Lib.hid hl0
  have HLL := Lib.hid (show l0.length = t from hB0.length)
  have HWI := Lib.hid (show widthB src = t by unfold widthB; rw [List.getD_eq_getElem?_getD, HL0.out]; exact HLL.out)
  have i0' : (0 : Int) < (n : Int) := by omega
  clear hl0 hB0
  by_cases h3 : 1 ≤ t
  rotate_left 1
  · go_enter Tryd.func34, Tryd.ntmps34
    go_wp2
    go_ret
    exact ⟨by rw [src_no3 (by rw [HWI.out]; omega)]; rfl, Below.refl _ _⟩
  by_cases h4 : t ≤ 64
  rotate_left 1
  · go_enter Tryd.func34, Tryd.ntmps34
    go_wp2
    go_ret
    exact ⟨by rw [src_no4 (by rw [HWI.out]; omega)]; rfl, Below.refl _ _⟩
  go_enter Tryd.func34, Tryd.ntmps34
  go_wp2_with fail
  go_loopw [3] (fun i wr => ∃ m : Nat, 1 ≤ m ∧ m ≤ n ∧ i = .int .i64 (m : Nat) ∧ Hid (∀ j l, j < m → src[j]? = some l → l.length = t) ∧ Below w.heap.size w wr) (fun i _ => (n - intOf i).toNat)
  case atStart =>
    refine ⟨1, Nat.le_refl _, h1, rfl, Lib.hid (fun j l hj hl => ?_), Below.refl _ _⟩
    obtain rfl : j = 0 := by omega
    rw [HL0.out] at hl
    rw [← Option.some.inj hl]; exact HLL.out
  case round =>
    obtain ⟨m, hm1, hm, rfl, HZ, hb⟩ := hrel
    by_cases hlt : m < n
    · obtain ⟨b', off', ya, yn, yc, l, e, hc1, hl, hB⟩ := H.out.at hlt
      injection e with e
      injection e with e1 e2
      subst e1 e2
      have HL := Lib.hid hl
      have HLY := Lib.hid (show l.length = yn from hB.length)
      have hc := cell_below hc1 hb
      have hd := cell_below hc0 hb
      clear hl hB hc1
      by_cases h0 : yn = t
      · have h0' : ((yn : Int) != (t : Int)) = false := by simp [h0]
        have H0 := Lib.hid h0
        clear h0
        go_wp2
        go_quiet (fail)
        go_wp2
        go_roundw
        case rel => exact ⟨m + 1, by omega, by omega, by go_num, Lib.hid (fun j l' hj hl' => (by
          by_cases e : j = m
          · rw [e, HL.out] at hl'
            rw [← Option.some.inj hl', HLY.out]; exact H0.out
          · exact HZ.out j l' (by omega) hl')), below_drewR hb _⟩
        case measure => simp [intOf] <;> omega
      · have h0' : ((yn : Int) != (t : Int)) = true := by simp; omega
        go_wp2
        go_quiet (fail)
        go_wp2
        go_ret
        exact ⟨by rw [src_no5 HL.out (by rw [HWI.out, HLY.out]; omega)]; rfl, below_drewR hb _⟩
    · obtain rfl : m = n := by omega
      go_wp2
      go_ret
      exact ⟨by rw [src_yes (by rw [HLS.out]; exact h1) (by rw [HLS.out]; exact h2) (by rw [HWI.out]; exact h3) (by rw [HWI.out]; exact h4) (fun r hr => by
        obtain ⟨j, hj⟩ := List.getElem?_of_mem hr
        rw [HWI.out]
        exact HZ.out j r (by have := (List.getElem?_eq_some_iff.1 hj).1; rw [HLS.out] at this; exact this) hj)]; rfl, hb⟩
end Go.Proofs.YtkihgidhpggcfaaDoor
