/-
  The walk of JudgeOrders.
-/
import Derived.Test.YtnefcbcioemfiaaJdQ
namespace Go.Proofs.Ytnefcbcioemfiaa
open Go Go.RowKit

theorem okPath_nodup_len {A : List ActR} {r : List Nat} {T : Nat} {l : Int} (h : okPath A r T l = true) : r.length ≤ A.length := Nat.le_trans (okPath_len h) (leftN_le A T)
theorem rowOf_len (xs : List ActR) (k : ByteArray) : (rowOf xs k).length ≤ xs.length := List.length_filter_le _ _
theorem order_len {xs : List ActR} {k : ByteArray} {r : List Nat} (h : orderR xs k = some r) : r.length ≤ xs.length := by
  unfold orderR at h
  split at h
  · obtain ⟨q, hq, rfl⟩ := Option.map_eq_some_iff.1 h
    rw [List.length_map]
    exact Nat.le_trans (okPath_nodup_len (srch_some hq)) (rowOf_len xs k)
  · cases h
/-- a copy of acts, to be read. -/
theorem copyActs_rd (aa : Option Addr) (an ac : Nat) (xs : List ActR) (w : World) (h : ActsV w aa an xs) (hac : an ≤ ac) (hn : an ≤ 1000000) :
    Calls Try.prog 12 #[.slice aa an ac] w fun e w' => ∃ a c, e = .returned (.slice a an c) ∧ ActsV w' a an xs ∧ an ≤ c ∧ Below w.heap.size w w' := by
  refine (copyActs_any aa an ac xs w h hac hn).mono ?_
  rintro e w' ⟨a, c, ys, rfl, hy, ho, hb, hc⟩
  have hl := h.len
  subst hl
  have h1 := ho.acts
  have h2 : ys.length = xs.length := by rw [← hy]; simp
  rw [h2, hy] at h1
  exact ⟨a, c, rfl, h1, hc, hb⟩
set_option maxRecDepth 100000 in
set_option maxHeartbeats 8000000 in
theorem judgeOrders_walk (aa : Option Addr) (an ac : Nat) (xs : List ActR) (key : ByteArray) (oa : Option Addr) (on oc : Nat) (os : List Int) (w : World) (h : ActsV w aa an xs) (hkk : KOk xs) (hac : an ≤ ac) (hn : an ≤ 140737488355328) (hks : key.size ≤ 140737488355328) (ho : IntsV w (oa, on, oc) os) (_ho8 : on * 8 ≤ 140737488351232) (_hz : ∀ z ∈ os, (Lit.int .i64 z).wf = true) :
    Calls Try.prog 5 #[.slice aa an ac, .string key, .slice oa on oc] w fun e w' => e = .returned (.bool true) ∧ Below w.heap.size w w' := by
  have KA := alive_any w
  have H := Lib.hid h
  have HO := Lib.hid ho
  have HKK := Lib.hid hkk
  have HKS := Lib.hid hks
  clear h ho hkk hks
  go_enter Try.func5, Try.ntmps5
  go_wp2_with fail
  (with_reducible refine KA.mono ?_)
  rintro e w1 ⟨rfl, b1⟩
  have KG := great_any aa an ac xs w1 (H.out.below b1) hac hn
  have B1 := Lib.hid b1
  clear KA b1
  go_wp2_with fail
  (with_reducible refine KG.mono ?_)
  rintro e w2 ⟨b2, ⟨rfl, h60⟩ | rfl⟩
  · have B2 := Lib.hid (B1.out.trans (b2.mono B1.out.size))
    clear KG b2
    by_cases ho60 : 60 < on
    · have h6 : (60 : Int) < (on : Int) := by omega
      go_wp2
      go_ret
      exact ⟨rfl, B2.out⟩
    · have h6 : ¬ (60 : Int) < (on : Int) := by omega
      have KC := copyActs_rd aa an ac xs w2 (H.out.below B2.out) hac (by omega)
      go_wp2_with fail
      (with_reducible refine KC.mono ?_)
      rintro e w3 ⟨a3, c3, rfl, hv3, hc3, b3⟩
      have KO := orderK_any a3 an c3 xs key w3 hv3 hc3 (by omega) HKK.out HKS.out
      obtain ⟨O, hO⟩ : ∃ O, O = orderR xs key := ⟨_, rfl⟩
      rw [← hO] at KO
      have HOO := Lib.hid hO
      have B3 := Lib.hid (B2.out.trans (b3.mono B2.out.size))
      clear KC hv3 b3 hO
      go_wp2_with fail
      (with_reducible refine KO.mono ?_)
      rintro e w4 ⟨b4, ⟨r, ra, rc, hr, rfl, hro⟩ | ⟨hr, rfl⟩⟩
      · have B4 := Lib.hid (B3.out.trans (b4.mono B3.out.size))
        have hfit := orders_fit (xs := xs) (k := key) (o := r) (by rw [← HOO.out]; exact hr)
        have HFIT := Lib.hid hfit
        have hrl : r.length ≤ an := by
          have h1 : orderR xs key = some r := by rw [← HOO.out]; exact hr
          have := order_len h1
          have := H.out.len
          omega
        obtain ⟨rn, hrn⟩ : ∃ n, n = r.length := ⟨_, rfl⟩
        rw [← hrn] at hro hrl ⊢
        have KC := copyActs_rd aa an ac xs w4 (H.out.below B4.out) hac (by omega)
        have HRO := Lib.hid hro
        clear KO b4 hr hro hfit hrn
        go_wp2_with fail
        (with_reducible refine KC.mono ?_)
        rintro e w5 ⟨a5, c5, rfl, hv5, hc5, b5⟩
        have KF := fitsK_any a5 an c5 xs key ra rn rc (cnL r) w5 hv5 hc5 (by omega) HKK.out HKS.out ((intsV_own HRO.out (by omega)).below b5) (by omega)
        rw [HFIT.out] at KF
        have B5 := Lib.hid (B4.out.trans (b5.mono B4.out.size))
        clear KC hv5 b5
        go_wp2_with fail
        (with_reducible refine KF.mono ?_)
        rintro e w6 ⟨rfl, b6⟩
        have B6 := Lib.hid (B5.out.trans (b6.mono B5.out.size))
        clear KF b6
        go_wp2
        go_ret
        exact ⟨rfl, B6.out⟩
      · have B4 := Lib.hid (B3.out.trans (b4.mono B3.out.size))
        have hfit := orders_none (xs := xs) (k := key) (by rw [← HOO.out]; exact hr) os
        have HFIT := Lib.hid hfit
        have KC := copyActs_rd aa an ac xs w4 (H.out.below B4.out) hac (by omega)
        clear KO b4 hr hfit
        go_wp2_with fail
        (with_reducible refine KC.mono ?_)
        rintro e w5 ⟨a5, c5, rfl, hv5, hc5, b5⟩
        have B5 := Lib.hid (B4.out.trans (b5.mono B4.out.size))
        have KI := copyInts_any oa on oc os w5 (HO.out.below B5.out) (by omega)
        have HV5 := Lib.hid hv5
        have hol : os.length = on := HO.out.length
        unfold GivesInts at KI
        rw [hol] at KI
        clear KC hv5 b5 hol
        go_wp2_with fail
        (with_reducible refine KI.mono ?_)
        rintro e w6 ⟨a6, c6, rfl, o6, b6⟩
        have KF := fitsK_any a5 an c5 xs key a6 on c6 os w6 (HV5.out.below b6) hc5 (by omega) HKK.out HKS.out (intsV_own o6 (by omega)) (by omega)
        rw [HFIT.out] at KF
        have B6 := Lib.hid (B5.out.trans (b6.mono B5.out.size))
        clear KI o6 b6
        go_wp2_with fail
        (with_reducible refine KF.mono ?_)
        rintro e w7 ⟨rfl, b7⟩
        have B7 := Lib.hid (B6.out.trans (b7.mono B6.out.size))
        clear KF b7
        go_wp2
        go_ret
        exact ⟨rfl, B7.out⟩
  · have B2 := Lib.hid (B1.out.trans (b2.mono B1.out.size))
    clear KG b2
    go_wp2
    go_ret
    exact ⟨rfl, B2.out⟩
end Go.Proofs.Ytnefcbcioemfiaa
