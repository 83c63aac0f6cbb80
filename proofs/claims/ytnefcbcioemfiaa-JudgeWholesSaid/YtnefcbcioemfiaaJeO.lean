/-
  The walk of JudgeWholes.
-/
import Derived.Test.YtnefcbcioemfiaaJeA
import Derived.Test.YtnefcbcioemfiaaJeF
import Derived.Test.YtnefcbcioemfiaaJeM
import Derived.Test.YtnefcbcioemfiaaJeN
namespace Go.Proofs.Ytnefcbcioemfiaa
open Go Go.RowKit

set_option maxRecDepth 100000 in
set_option maxHeartbeats 8000000 in
theorem judgeWholes_walk (aa : Option Addr) (an ac : Nat) (xs : List ActR) (key : ByteArray) (w : World) (h : ActsV w aa an xs) (hkk : KOk xs) (hac : an ≤ ac) (hn : an ≤ 140737488355328) (hks : key.size ≤ 140737488355328) :
    Calls Try.prog 3 #[.slice aa an ac, .string key] w fun e w' => e = .returned (.bool true) ∧ Below w.heap.size w w' := by
  have KA := alive_any w
  have H := Lib.hid h
  have HKK := Lib.hid hkk
  have HKS := Lib.hid hks
  clear h hkk hks
  go_enter Try.func3, Try.ntmps3
  go_wp2_with fail
  (with_reducible refine KA.mono ?_)
  rintro e w1 ⟨rfl, b1⟩
  have KG := great_any aa an ac xs w1 (H.out.below b1) hac hn
  have B1 := Lib.hid b1
  clear KA b1
  go_wp2_with fail
  (with_reducible refine KG.mono ?_)
  rintro e w2 ⟨b2, ⟨rfl, h60⟩ | rfl⟩
  rotate_left 1
  · have B2 := Lib.hid (B1.out.trans (b2.mono B1.out.size))
    clear KG b2
    go_wp2
    go_ret
    exact ⟨rfl, B2.out⟩
  have B2 := Lib.hid (B1.out.trans (b2.mono B1.out.size))
  have hn6 : an ≤ 1000000 := by omega
  have HN6 := Lib.hid hn6
  clear KG b2
  have KC := copyActs_rd aa an ac xs w2 (H.out.below B2.out) hac HN6.out
  go_wp2_with fail
  (with_reducible refine KC.mono ?_)
  rintro e x1 ⟨a8, c8, rfl, hv8, hc8, b8⟩
  have X1 := Lib.hid (B2.out.trans (b8.mono B2.out.size))
  have HV8 : Hid (∀ W, Below x1.heap.size x1 W → ActsV W a8 an xs) := Lib.hid fun W hW => hv8.below hW
  have HC8 := Lib.hid hc8
  have K1 := keys_up a8 an c8 xs x1 (HV8.out x1 (Below.refl _ _)) HC8.out HN6.out HKK.out
  unfold GivesKeysU at K1
  clear KC b8 hv8
  go_wp2_with fail
  (with_reducible refine K1.mono ?_)
  rintro e x2 ⟨ka, kn, kc, ks, rfl, hr1, hm1, hu1, hkn, b9⟩
  have X2 := Lib.hid (X1.out.trans (b9.mono X1.out.size))
  have Y2 := Lib.hid b9
  have HR1 := Lib.hid hr1
  have HM1 := Lib.hid hm1
  have HU1 := Lib.hid hu1
  have K2 := refKeys_up aa an ac xs x2 (H.out.below X2.out) hac HN6.out
  unfold GivesKeysU at K2
  clear K1 b9 hr1 hm1 hu1
  go_wp2_with fail
  (with_reducible refine K2.mono ?_)
  rintro e x3 ⟨la, ln, lc, ls, rfl, hr2, hm2, hu2, hln, b10⟩
  have X3 := Lib.hid (X2.out.trans (b10.mono X2.out.size))
  have Y3 := Lib.hid (Y2.out.trans (b10.mono Y2.out.size))
  have hsame : ks = ls := UpK.same HU1.out hu2 fun x => by rw [HM1.out, hm2]
  have K3 := sameTexts_any ka kn kc ks la ln lc ls x3 (HR1.out.below b10) hr2 (by omega)
  rw [decide_eq_true hsame] at K3
  clear K2 b10 hr2 hm2 hu2 hsame HR1 HM1 HU1
  go_wp2_with fail
  (with_reducible refine K3.mono ?_)
  rintro e x4 ⟨rfl, b11⟩
  have X4 := Lib.hid (X3.out.trans (b11.mono X3.out.size))
  have Y4 := Lib.hid (Y3.out.trans (b11.mono Y3.out.size))
  obtain ⟨cz, hcz⟩ : ∃ c, c = checkR xs := ⟨_, rfl⟩
  have K4 := check_any a8 an c8 xs x4 (HV8.out x4 Y4.out) HC8.out HN6.out HKK.out
  rw [← hcz] at K4
  clear K3 b11
  go_wp2_with fail
  (with_reducible refine K4.mono ?_)
  rintro e x5 ⟨rfl, b12⟩
  have X5 := Lib.hid (X4.out.trans (b12.mono X4.out.size))
  have Y5 := Lib.hid (Y4.out.trans (b12.mono Y4.out.size))
  have K5 := refCheck_any aa an ac xs x5 (H.out.below X5.out) hac HN6.out
  rw [← hcz] at K5
  have hzz : (cz == cz) = true := by simp
  have hzz2 : (cz != cz) = false := by simp
  clear K4 b12 hcz
  go_wp2_with fail
  (with_reducible refine K5.mono ?_)
  rintro e x6 ⟨rfl, b13⟩
  have X6 := Lib.hid (X5.out.trans (b13.mono X5.out.size))
  have Y6 := Lib.hid (Y5.out.trans (b13.mono Y5.out.size))
  have K6 := many_any aa an ac xs x6 (H.out.below X6.out) hac HN6.out
  clear K5 b13
  go_wp2_with fail
  (with_reducible refine K6.mono ?_)
  rintro e x7 ⟨mq, rfl, b14⟩
  have X7 := Lib.hid (X6.out.trans (b14.mono X6.out.size))
  have Y7 := Lib.hid (Y6.out.trans (b14.mono Y6.out.size))
  clear K6 b14 hzz hzz2
  cases mq with
  | true =>
    go_wp2
    go_ret
    exact ⟨rfl, X7.out⟩
  | false =>
  have K7 := orderK_any a8 an c8 xs key x7 (HV8.out x7 Y7.out) HC8.out HN6.out HKK.out HKS.out
  obtain ⟨O, hO⟩ : ∃ O, O = orderR xs key := ⟨_, rfl⟩
  rw [← hO] at K7
  have HOO := Lib.hid hO
  clear hO
  go_wp2_with fail
  (with_reducible refine K7.mono ?_)
  rintro e x8 ⟨b15, ⟨r, ra, rc, hr, rfl, hro⟩ | ⟨hr, rfl⟩⟩
  · have X8 := Lib.hid (X7.out.trans (b15.mono X7.out.size))
    have Y8 := Lib.hid (Y7.out.trans (b15.mono Y7.out.size))
    have hfit := orders_fit (xs := xs) (k := key) (o := r) (by rw [← HOO.out]; exact hr)
    have HFIT := Lib.hid hfit
    have hrl : r.length ≤ an := by
      have h1 : orderR xs key = some r := by rw [← HOO.out]; exact hr
      have := order_len h1
      have := H.out.len
      omega
    have K8 := refIs_any aa an ac xs key x8 (H.out.below X8.out) hac HN6.out
    have hiss : (orderR xs key).isSome = true := by rw [← HOO.out, hr]; rfl
    rw [hiss] at K8
    obtain ⟨rn, hrn⟩ : ∃ n, n = r.length := ⟨_, rfl⟩
    rw [← hrn] at hro hrl ⊢
    have HRO : Hid (∀ W, Below x8.heap.size x8 W → IntsV W (ra, rn, rc) (cnL r)) := Lib.hid fun W hW => (intsV_own hro (by omega)).below hW
    clear K7 b15 hr hro hfit hrn hiss
    go_wp2_with fail
    (with_reducible refine K8.mono ?_)
    rintro e x9 ⟨rfl, b16⟩
    have X9 := Lib.hid (X8.out.trans (b16.mono X8.out.size))
    have Y9 := Lib.hid (Y8.out.trans (b16.mono Y8.out.size))
    have Z9 := Lib.hid b16
    obtain ⟨wh, hwh⟩ : ∃ c, c = wholeR xs := ⟨_, rfl⟩
    have K9 := whole_any a8 an c8 xs x9 (HV8.out x9 Y9.out) HC8.out HN6.out HKK.out
    rw [← hwh] at K9
    have HWH := Lib.hid hwh
    clear K8 b16 hwh
    go_wp2_with fail
    (with_reducible refine K9.mono ?_)
    rintro e v1 ⟨rfl, b17⟩
    have V1 := Lib.hid (X9.out.trans (b17.mono X9.out.size))
    have U1 := Lib.hid (Y9.out.trans (b17.mono Y9.out.size))
    have T1 := Lib.hid (Z9.out.trans (b17.mono Z9.out.size))
    have K10 := refWhole_any aa an ac xs v1 (H.out.below V1.out) hac HN6.out
    rw [← HWH.out] at K10
    have hww : (wh == wh) = true := by simp
    have hww2 : (wh != wh) = false := by simp
    clear K9 b17
    go_wp2_with fail
    (with_reducible refine K10.mono ?_)
    rintro e v2 ⟨rfl, b18⟩
    have V2 := Lib.hid (V1.out.trans (b18.mono V1.out.size))
    have U2 := Lib.hid (U1.out.trans (b18.mono U1.out.size))
    have T2 := Lib.hid (T1.out.trans (b18.mono T1.out.size))
    have K11 := sameActs_same a8 an c8 xs aa ac v2 (HV8.out v2 U2.out) (H.out.below V2.out) HC8.out hac HN6.out
    clear K10 b18
    go_wp2_with fail
    (with_reducible refine K11.mono ?_)
    rintro e v3 ⟨rfl, b19⟩
    have V3 := Lib.hid (V2.out.trans (b19.mono V2.out.size))
    have U3 := Lib.hid (U2.out.trans (b19.mono U2.out.size))
    have T3 := Lib.hid (T2.out.trans (b19.mono T2.out.size))
    have K12 := refFits_any aa an ac xs key ra rn rc (cnL r) v3 (H.out.below V3.out) hac HN6.out (HRO.out v3 T3.out) (by omega)
    rw [HFIT.out] at K12
    clear K11 b19 hww hww2
    go_wp2_with fail
    (with_reducible refine K12.mono ?_)
    rintro e v4 ⟨rfl, b20⟩
    have V4 := Lib.hid (V3.out.trans (b20.mono V3.out.size))
    have U4 := Lib.hid (U3.out.trans (b20.mono U3.out.size))
    have T4 := Lib.hid (T3.out.trans (b20.mono T3.out.size))
    have K13 := fitsK_any a8 an c8 xs key ra rn rc (cnL r) v4 (HV8.out v4 U4.out) HC8.out HN6.out HKK.out HKS.out (HRO.out v4 T4.out) (by omega)
    rw [HFIT.out] at K13
    clear K12 b20
    go_wp2_with fail
    (with_reducible refine K13.mono ?_)
    rintro e v5 ⟨rfl, b21⟩
    have V5 := Lib.hid (V4.out.trans (b21.mono V4.out.size))
    clear K13 b21
    go_wp2
    go_ret
    exact ⟨rfl, V5.out⟩
  · have X8 := Lib.hid (X7.out.trans (b15.mono X7.out.size))
    have Y8 := Lib.hid (Y7.out.trans (b15.mono Y7.out.size))
    have K8 := refIs_any aa an ac xs key x8 (H.out.below X8.out) hac HN6.out
    have hiss : (orderR xs key).isSome = false := by rw [← HOO.out, hr]; rfl
    rw [hiss] at K8
    clear K7 b15 hr hiss
    go_wp2_with fail
    (with_reducible refine K8.mono ?_)
    rintro e x9 ⟨rfl, b16⟩
    have X9 := Lib.hid (X8.out.trans (b16.mono X8.out.size))
    have Y9 := Lib.hid (Y8.out.trans (b16.mono Y8.out.size))
    obtain ⟨wh, hwh⟩ : ∃ c, c = wholeR xs := ⟨_, rfl⟩
    have K9 := whole_any a8 an c8 xs x9 (HV8.out x9 Y9.out) HC8.out HN6.out HKK.out
    rw [← hwh] at K9
    have HWH := Lib.hid hwh
    clear K8 b16 hwh
    go_wp2_with fail
    (with_reducible refine K9.mono ?_)
    rintro e v1 ⟨rfl, b17⟩
    have V1 := Lib.hid (X9.out.trans (b17.mono X9.out.size))
    have U1 := Lib.hid (Y9.out.trans (b17.mono Y9.out.size))
    have K10 := refWhole_any aa an ac xs v1 (H.out.below V1.out) hac HN6.out
    rw [← HWH.out] at K10
    have hww : (wh == wh) = true := by simp
    have hww2 : (wh != wh) = false := by simp
    clear K9 b17
    go_wp2_with fail
    (with_reducible refine K10.mono ?_)
    rintro e v2 ⟨rfl, b18⟩
    have V2 := Lib.hid (V1.out.trans (b18.mono V1.out.size))
    have U2 := Lib.hid (U1.out.trans (b18.mono U1.out.size))
    have K11 := sameActs_same a8 an c8 xs aa ac v2 (HV8.out v2 U2.out) (H.out.below V2.out) HC8.out hac HN6.out
    clear K10 b18
    go_wp2_with fail
    (with_reducible refine K11.mono ?_)
    rintro e v3 ⟨rfl, b19⟩
    have V3 := Lib.hid (V2.out.trans (b19.mono V2.out.size))
    clear K11 b19 hww hww2
    go_wp2
    go_ret
    exact ⟨rfl, V3.out⟩
end Go.Proofs.Ytnefcbcioemfiaa
