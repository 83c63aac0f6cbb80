/-
  The reference of the judge: Is and Whole.
-/
import Derived.Test.YtnefcbcioemfiaaJeK
import Derived.Test.YtnefcbcioemfiaaJdS
namespace Go.Proofs.Ytnefcbcioemfiaa
open Go Go.RowKit

theorem is_iff (xs : List ActR) (k : ByteArray) : (orderR xs k).isSome = true ↔ checkR xs = 0 ∧ Lin (rowOf xs k) := by
  unfold orderR ordR
  by_cases h : checkR xs = 0
  · rw [if_pos h, Option.isSome_map, srch_lin]
    exact ⟨fun h2 => ⟨h, h2⟩, fun h2 => h2.2⟩
  · rw [if_neg h]
    exact ⟨fun h2 => (nomatch h2), fun h2 => absurd h2.1 h⟩
theorem whole_is (xs : List ActR) (hc : checkR xs = 0) : wholeR xs = true ↔ ∀ k ∈ keyList xs, (orderR xs k).isSome = true := by
  rw [whole_iff]
  exact ⟨fun h k hk => (is_iff xs k).2 ⟨hc, h.2 k hk⟩, fun h => ⟨hc, fun k hk => ((is_iff xs k).1 (h k hk)).2⟩⟩
theorem no_bad {xs : List ActR} (hc : checkR xs = 0) : ∀ a ∈ xs, stepBad a = false := by
  intro a ha
  unfold checkR at hc
  cases h : stepBad a with
  | false => rfl
  | true =>
    rw [if_pos (List.any_eq_true.2 ⟨a, ha, h⟩)] at hc
    omega
theorem curL_none (xs : List ActR) : curL xs (-1) = none := by unfold curL; rw [if_pos (.inl (by omega))]
theorem actsOf_places (xs : List ActR) (k : ByteArray) : actsOf xs (placesOf xs k) = rowOf xs k := placesOf_row xs k

set_option maxRecDepth 100000 in
set_option maxHeartbeats 8000000 in
theorem refIs_any (aa : Option Addr) (an ac : Nat) (xs : List ActR) (key : ByteArray) (w : World) (h : ActsV w aa an xs) (hac : an ≤ ac) (hn : an ≤ 1000000) :
    Calls Try.prog 20 #[.slice aa an ac, .string key] w fun e w' => e = .returned (.bool (orderR xs key).isSome) ∧ Below w.heap.size w w' := by
  obtain ⟨i0, hi, hz0, hz1, hz2⟩ := info_parts infoIntJ
  have H := Lib.hid h
  have hxl : xs.length = an := h.len
  have HXL := Lib.hid hxl
  obtain ⟨res, hres⟩ : ∃ r, r = (orderR xs key).isSome := ⟨_, rfl⟩
  rw [← hres]
  have HRES : Hid (res = true ↔ checkR xs = 0 ∧ Lin (rowOf xs key)) := Lib.hid (by rw [hres]; exact is_iff xs key)
  have KC := refCheck_any aa an ac xs w h hac hn
  obtain ⟨cz, hcz⟩ : ∃ c, c = checkR xs := ⟨_, rfl⟩
  rw [← hcz] at KC
  have HCZ := Lib.hid hcz
  clear h hxl hres hcz
  go_enter Try.func20, Try.ntmps20
  go_wp2_with fail
  (with_reducible refine KC.mono ?_)
  rintro e w1 ⟨rfl, b1⟩
  have B1 := Lib.hid b1
  clear KC b1
  by_cases hc0 : cz = 0
  case neg =>
    have hr : res = false := by
      cases res with
      | false => rfl
      | true => exact absurd (HCZ.out.trans (HRES.out.1 rfl).1) hc0
    subst hr
    go_wp2
    go_ret
    exact ⟨rfl, B1.out⟩
  subst hc0
  have O1 : Hid ((w1.alloc (.cells #[] 3)).ownsRow w1.heap.size 3 1 (.slice (some ⟨w1.heap.size, 0, none⟩) 0 0) 0 ((cnL (placesTo xs key 0)).map iv)) := Lib.hid (World.ownsRow_made (base := w1.heap.size) (e := 3) (size := 1) w1 #[] 0 (Nat.le_refl _) (by simp [maxLen]) rfl)
  have BB1 : Hid (Below w1.heap.size w1 (w1.alloc (.cells #[] 3))) := Lib.hid (below_alloc w1 _)
  go_wp2_with fail
  go_loopw [5, 6] (fun vl vi wr => ∃ (i : Nat) (ad : Option Addr) (n c : Nat), i ≤ an ∧ vi = .int .i64 (i : Nat) ∧ vl = .slice ad n c ∧ n ≤ i ∧ Hid (n = (placesTo xs key i).length) ∧ Hid (wr.ownsRow w1.heap.size 3 1 (.slice ad n c) n ((cnL (placesTo xs key i)).map iv)) ∧ Hid (Below w1.heap.size w1 wr)) (fun _ vi _ => an - (intOf vi).toNat)
  case atStart => exact ⟨0, _, 0, 0, Nat.zero_le _, rfl, rfl, Nat.le_refl _, Lib.hid rfl, O1, BB1⟩
  case round =>
    clear O1 BB1
    obtain ⟨i, ad, n, c, hin, rfl, rfl, hni, HNL, RO, HB⟩ := hrel
    have HBW := Lib.hid (B1.out.trans (HB.out.mono B1.out.size))
    by_cases hlt : i < an
    · have hi0 : (0 : Int) ≤ (i : Int) := by omega
      have hi1 : (i : Int) < (an : Int) := by omega
      obtain ⟨b, o, A, x, y, z, eaa, -, hA, at0⟩ := H.out.at hlt
      subst eaa
      have HA := Lib.hid hA
      have KT := refCounts_any A x y z key wr
      unfold ActC at KT
      obtain ⟨cq, hcq⟩ : ∃ q, q = (decide (A.key = key) && countsB A) := ⟨_, rfl⟩
      rw [← hcq] at KT
      have HSC : Hid (placesTo xs key (i + 1) = placesTo xs key i ++ (if cq = true then [i] else [])) := Lib.hid (by rw [placesTo_succ, hA, hcq])
      obtain ⟨c0, c1, c2, c3, c4, c5, c6, c7, c8, c9, ca, cb, cc, cd, ce, -⟩ := at0.below HBW.out
      clear hA at0 hcq
      go_wp2_with fail
      (with_reducible refine KT.mono ?_)
      rintro e W2 ⟨rfl, b2⟩
      have D8 := Lib.hid (HB.out.trans (b2.mono HB.out.size))
      have RO2 := Lib.hid (own_belowJ RO.out b2)
      clear KT b2 c0 c1 c2 c3 c4 c5 c6 c7 c8 c9 ca cb cc cd ce RO
      cases cq with
      | false =>
        have HE2 : Hid (placesTo xs key (i + 1) = placesTo xs key i) := Lib.hid (by rw [HSC.out]; simp)
        go_wp2
        go_roundw
        case rel => exact ⟨i + 1, ad, n, c, by omega, by go_num, rfl, by omega, Lib.hid (by rw [HE2.out]; exact HNL.out), Lib.hid (by rw [HE2.out]; exact RO2.out), D8⟩
        case measure => simp [intOf]; omega
      | true =>
        have HE2 : Hid (placesTo xs key (i + 1) = placesTo xs key i ++ [i]) := Lib.hid (by rw [HSC.out]; simp)
        have o8 := own_belowJ RO2.out (below_alloc W2 (.cells #[.int .i64 (i : Int)] 3))
        have r8 := rowOne W2 (.int .i64 (i : Int)) 3
        have hz8 : w1.heap.size ≤ (W2.alloc (.cells #[.int .i64 (i : Int)] 3)).heap.size := Nat.le_trans D8.out.size (below_alloc W2 (.cells #[.int .i64 (i : Int)] 3)).size
        go_wp2_with (first | (at_builtin; refine wpList_append_row rfl _ _ 31 rfl w1.heap.size 3 i0 (.int .i64 0) 8 Try.underlying31 hi hz0 hz1 hz2 rfl _ _ _ rfl o8 (some ⟨W2.heap.size, 0, none⟩) 1 1 [.int .i64 (i : Int)] rfl r8 (fun h => nomatch h) (by intro u hu; simp at hu; subst hu; rfl) (by simp [maxLen]; omega) (by omega) hz8 ?_; intro v' w9 hown1 hgrow1 hnil1))
        obtain ⟨ad', cap', rfl, _⟩ := ownsRow_parts hown1
        have D9 := Lib.hid (below_grown (D8.out.trans ((below_alloc W2 (.cells #[.int .i64 (i : Int)] 3)).mono D8.out.size)) hgrow1 (ownBlock_ge o8))
        have RO3 : Hid (w9.ownsRow w1.heap.size 3 1 (.slice ad' (n + 1) cap') (n + 1) ((cnL (placesTo xs key (i + 1))).map iv)) := Lib.hid (by rw [HE2.out]; unfold cnL; rw [List.map_append, List.map_append]; exact hown1)
        clear o8 r8 hz8 hown1 hgrow1 hnil1
        go_wp2
        go_roundw
        case rel => exact ⟨i + 1, ad', n + 1, cap', by omega, by go_num, rfl, by omega, Lib.hid (by rw [HE2.out, List.length_append, ← HNL.out]; rfl), RO3, D9⟩
        case measure => simp [intOf]; omega
    · obtain rfl : i = an := by omega
      have hpl : placesTo xs key i = placesOf xs key := by unfold placesOf; rw [HXL.out]
      have KM := more_any aa i ac xs hn (no_bad HCZ.out.symm) (placesOf xs key).length (placesOf xs key) ad n c (-1) wr (Nat.le_refl _) (H.out.below HBW.out) (intsV_own (by rw [← hpl]; exact RO.out) (by omega)) (fun p hp => by have := placesTo_lt hp; rw [HXL.out] at this; exact this) (by omega) (by omega)
      unfold MoreR at KM
      rw [curL_none, actsOf_places] at KM
      clear hpl
      go_wp2_with fail
      (with_reducible refine KM.mono ?_)
      rintro e w5 ⟨r, hr, rfl, b5⟩
      have hrr : r = res := by
        rw [Bool.eq_iff_iff, hr, HRES.out]
        exact ⟨fun h => ⟨HCZ.out.symm, h⟩, fun h => h.2⟩
      have B5 := Lib.hid (HBW.out.trans (b5.mono HBW.out.size))
      subst hrr
      clear KM hr b5
      go_wp2
      go_ret
      exact ⟨rfl, B5.out⟩

set_option maxRecDepth 100000 in
set_option maxHeartbeats 8000000 in
theorem refWhole_any (aa : Option Addr) (an ac : Nat) (xs : List ActR) (w : World) (h : ActsV w aa an xs) (hac : an ≤ ac) (hn : an ≤ 1000000) :
    Calls Try.prog 22 #[.slice aa an ac] w fun e w' => e = .returned (.bool (wholeR xs)) ∧ Below w.heap.size w w' := by
  have H := Lib.hid h
  obtain ⟨res, hres⟩ : ∃ r, r = wholeR xs := ⟨_, rfl⟩
  rw [← hres]
  have HRES := Lib.hid hres
  have KC := refCheck_any aa an ac xs w h hac hn
  obtain ⟨cz, hcz⟩ : ∃ c, c = checkR xs := ⟨_, rfl⟩
  rw [← hcz] at KC
  have HCZ := Lib.hid hcz
  clear h hres hcz
  go_enter Try.func22, Try.ntmps22
  go_wp2_with fail
  (with_reducible refine KC.mono ?_)
  rintro e w1 ⟨rfl, b1⟩
  have B1 := Lib.hid b1
  clear KC b1
  by_cases hc0 : cz = 0
  case neg =>
    have hr : res = false := by
      cases res with
      | false => rfl
      | true => exact absurd (HCZ.out.trans ((whole_iff xs).1 HRES.out.symm).1) hc0
    subst hr
    go_wp2
    go_ret
    exact ⟨rfl, B1.out⟩
  subst hc0
  have HR1 : Hid (res = true ↔ ∀ k ∈ keyList xs, (orderR xs k).isSome = true) := Lib.hid (by rw [HRES.out]; exact whole_is xs HCZ.out.symm)
  have KK := refKeys_any aa an ac xs w1 (H.out.below B1.out) hac hn
  unfold GivesKeys at KK
  clear HRES
  go_wp2_with fail
  (with_reducible refine KK.mono ?_)
  rintro e wK ⟨ka, kn, kc, ks, rfl, hrow, hmem, hkn, b11⟩
  have X := Lib.hid (B1.out.trans (b11.mono B1.out.size))
  have HKR := Lib.hid hrow
  have hkl : ks.length = kn := by have := hrow.1; simpa using this
  have HKL := Lib.hid hkl
  have HR2 : Hid (res = true ↔ ∀ k ∈ ks, (orderR xs k).isSome = true) := Lib.hid (by
    rw [HR1.out]
    exact ⟨fun h k hk => h k ((hmem k).1 hk), fun h k hk => h k ((hmem k).2 hk)⟩)
  clear KK b11 hrow hmem hkl HR1
  go_wp2_with fail
  go_loopw [4] (fun vi wr => ∃ (i : Nat), i ≤ kn ∧ vi = .int .i64 (i : Nat) ∧ Hid (∀ k ∈ ks.take i, (orderR xs k).isSome = true) ∧ Hid (Below wK.heap.size wK wr)) (fun vi _ => kn - (intOf vi).toNat)
  case atStart => exact ⟨0, Nat.zero_le _, rfl, Lib.hid (by simp), Lib.hid (Below.refl _ _)⟩
  case round =>
    obtain ⟨i, hik, rfl, HAL, HY⟩ := hrel
    have B2 := Lib.hid (X.out.trans (HY.out.mono X.out.size))
    by_cases hlt : i < kn
    · have hi0 : (0 : Int) ≤ (i : Int) := by omega
      have hi1 : (i : Int) < (kn : Int) := by omega
      obtain ⟨kb, ko, ekk, hkc⟩ := HKR.out.2 (by omega)
      subst ekk
      obtain ⟨key, hkey⟩ : ∃ q, ks[i]? = some q := ⟨_, List.getElem?_eq_getElem (by rw [HKL.out]; exact hlt)⟩
      have ck : wr.cell? ⟨kb, ko + i, none⟩ = some (.string key) := by
        have h1 := hkc i hlt
        rw [List.getElem?_map, hkey, Option.map_some] at h1
        exact cellBelow h1 HY.out
      have HKEY := Lib.hid hkey
      have KI := refIs_any aa an ac xs key wr (H.out.below B2.out) hac hn
      obtain ⟨q, hq⟩ : ∃ q, q = (orderR xs key).isSome := ⟨_, rfl⟩
      rw [← hq] at KI
      have HQ := Lib.hid hq
      clear hkc hkey hq
      go_wp2_with fail
      (with_reducible refine KI.mono ?_)
      rintro e w3 ⟨rfl, b3⟩
      have Y3 := Lib.hid (HY.out.trans (b3.mono HY.out.size))
      have B3 := Lib.hid (B2.out.trans (b3.mono B2.out.size))
      clear KI b3 ck
      cases q with
      | false =>
        have hr : res = false := by
          cases res with
          | false => rfl
          | true =>
            have h1 := HR2.out.1 rfl key (List.mem_of_getElem? HKEY.out)
            rw [← HQ.out] at h1
            cases h1
        subst hr
        go_wp2
        go_ret
        exact ⟨rfl, B3.out⟩
      | true =>
        have HN : Hid (∀ k ∈ ks.take (i + 1), (orderR xs k).isSome = true) := Lib.hid (by
          obtain ⟨hl, e⟩ := List.getElem?_eq_some_iff.1 HKEY.out
          rw [List.take_succ_eq_append_getElem hl, e]
          intro k hk
          rcases List.mem_append.1 hk with h | h
          · exact HAL.out k h
          · rw [List.mem_singleton.1 h]; exact HQ.out.symm)
        go_wp2
        go_roundw
        case rel => exact ⟨i + 1, by omega, by go_num, HN, Y3⟩
        case measure => simp [intOf]; omega
    · obtain rfl : i = kn := by omega
      have hr : res = true := HR2.out.2 (by have := HAL.out; rwa [List.take_of_length_le (by rw [HKL.out]; exact Nat.le_refl _)] at this)
      subst hr
      go_wp2
      go_ret
      exact ⟨rfl, B2.out⟩
end Go.Proofs.Ytnefcbcioemfiaa
