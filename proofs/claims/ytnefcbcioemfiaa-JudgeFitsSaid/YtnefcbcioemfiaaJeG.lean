/-
  The walk of JudgeFits.
-/
import Derived.Test.YtnefcbcioemfiaaJeF
namespace Go.Proofs.Ytnefcbcioemfiaa
open Go Go.RowKit

set_option maxRecDepth 100000 in
set_option maxHeartbeats 4000000 in
theorem judgeFits_walk (aa : Option Addr) (an ac : Nat) (xs : List ActR) (key : ByteArray) (oa : Option Addr) (on oc : Nat) (os : List Int) (w : World) (h : ActsV w aa an xs) (hkk : KOk xs) (hac : an ≤ ac) (hn : an ≤ 140737488355328) (hks : key.size ≤ 140737488355328) (ho : IntsV w (oa, on, oc) os) (_ho8 : on * 8 ≤ 140737488351232) (_hz : ∀ z ∈ os, (Lit.int .i64 z).wf = true) :
    Calls Try.prog 4 #[.slice aa an ac, .string key, .slice oa on oc] w fun e w' => e = .returned (.bool true) ∧ Below w.heap.size w w' := by
  have KA := alive_any w
  have H := Lib.hid h
  have HO := Lib.hid ho
  have HKK := Lib.hid hkk
  have HKS := Lib.hid hks
  have hol : os.length = on := ho.length
  have HOL := Lib.hid hol
  clear h ho hkk hks hol
  go_enter Try.func4, Try.ntmps4
  go_wp2_with fail
  (with_reducible refine KA.mono ?_)
  rintro e w1 ⟨rfl, b1⟩
  have KG := great_any aa an ac xs w1 (H.out.below b1) hac hn
  have B1 := Lib.hid b1
  clear KA b1
  go_wp2_with fail
  (with_reducible refine KG.mono ?_)
  rintro e w2 ⟨b2, ⟨rfl, h60⟩ | rfl⟩
  rotate_left 1
  · have B2 := Lib.hid (B1.out.trans (b2.mono B1.out.size))
    clear KG b2
    go_wp2
    go_ret
    exact ⟨rfl, B2.out⟩
  have B2 := Lib.hid (B1.out.trans (b2.mono B1.out.size))
  clear KG b2
  by_cases hl : 60 < on
  · have hl' : (60 : Int) < (on : Int) := by omega
    go_wp2
    go_ret
    exact ⟨rfl, B2.out⟩
  have hl' : ¬ (60 : Int) < (on : Int) := by omega
  have KC := copyActs_rd aa an ac xs w2 (H.out.below B2.out) hac (by omega)
  go_wp2_with fail
  (with_reducible refine KC.mono ?_)
  rintro e x1 ⟨a8, c8, rfl, hv8, hc8, b8⟩
  have X1 := Lib.hid (B2.out.trans (b8.mono B2.out.size))
  have HV8 := Lib.hid hv8
  have KI := copyInts_any oa on oc os x1 (HO.out.below X1.out) (by omega)
  unfold GivesInts at KI
  rw [HOL.out] at KI
  clear KC b8 hv8
  go_wp2_with fail
  (with_reducible refine KI.mono ?_)
  rintro e x2 ⟨a9, c9, rfl, o9, b9⟩
  have X2 := Lib.hid (X1.out.trans (b9.mono X1.out.size))
  obtain ⟨R, hR⟩ : ∃ R, R = fitsOf xs key os := ⟨_, rfl⟩
  have KF := fitsK_any a8 an c8 xs key a9 on c9 os x2 (HV8.out.below b9) hc8 (by omega) HKK.out HKS.out (intsV_own o9 (by omega)) (by omega)
  rw [← hR] at KF
  have HR := Lib.hid hR
  clear KI o9 b9 hR
  go_wp2_with fail
  (with_reducible refine KF.mono ?_)
  rintro e x3 ⟨rfl, b10⟩
  have X3 := Lib.hid (X2.out.trans (b10.mono X2.out.size))
  have KR := refFits_any aa an ac xs key oa on oc os x3 (H.out.below X3.out) hac (by omega) (HO.out.below X3.out) (by omega)
  rw [← HR.out] at KR
  have hRR : (R == R) = true := by cases R <;> rfl
  clear KF b10
  go_wp2_with fail
  (with_reducible refine KR.mono ?_)
  rintro e x4 ⟨rfl, b11⟩
  have X4 := Lib.hid (X3.out.trans (b11.mono X3.out.size))
  clear KR b11
  go_wp2
  go_ret
  exact ⟨by simp, X4.out⟩
end Go.Proofs.Ytnefcbcioemfiaa
