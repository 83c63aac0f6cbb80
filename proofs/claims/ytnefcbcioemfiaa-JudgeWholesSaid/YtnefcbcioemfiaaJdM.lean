/-
  judge: Check, Order, Whole.
-/
import Derived.Test.YtnefcbcioemfiaaJdL
namespace Go.Proofs.Ytnefcbcioemfiaa
open Go Go.RowKit Go.ChangeMaps Go.MapKept Go.WideShapes
open Go.Maps (Keyed)

theorem grown_noneJ {a b : World} (h : a.grownBy b none) : Below a.heap.size a b := ⟨h.os, h.tape, h.output, h.size, fun k hk => h.block k hk (by simp)⟩
theorem places_none {xs : List ActR} {k : ByteArray} (h : ¬ k ∈ keyList xs) : placesOf xs k = [] := by
  apply List.filter_eq_nil_iff.2
  intro i hi hc
  simp only [Bool.and_eq_true, decide_eq_true_eq] at hc
  have hi : i < xs.length := by simpa using hi
  refine h ((seen_list xs k).1 ⟨i, xs[i], hi, List.getElem?_eq_getElem hi, ?_, ?_⟩)
  · have := counts_keyed hc.2
    rwa [List.getD_eq_getElem?_getD, List.getElem?_eq_getElem hi] at this
  · have := hc.1
    rwa [List.getD_eq_getElem?_getD, List.getElem?_eq_getElem hi] at this
theorem check_len {xs : List ActR} (h : checkR xs = 0) (k : ByteArray) : (placesOf xs k).length ≤ 12 := by
  by_cases hk : k ∈ keyList xs
  · unfold checkR at h
    split at h
    · omega
    · split at h
      · omega
      · rename_i h2
        rw [Bool.not_eq_true, List.any_eq_false] at h2
        have := h2 k hk
        simpa using this
  · rw [places_none hk]; exact Nat.zero_le _
theorem whole_all {xs : List ActR} (h : checkR xs = 0) : wholeR xs = (keyList xs).all fun k => (ordP xs (placesOf xs k)).isSome := by
  rw [wholeR, decide_eq_true h, Bool.true_and]
  congr 1
  funext k
  rw [ordP_places, ordR]
  simp
theorem stepBad_split {A : ActR} (h : stepBad A = false) : ¬ A.st < 0 ∧ (0 ≤ A.en → ¬ A.en < A.st) := by
  simp only [stepBad, Bool.or_eq_false_iff, Bool.and_eq_false_iff, decide_eq_false_iff_not] at h
  exact ⟨h.1, fun h0 => by rcases h.2 with h2 | h2; exact absurd h0 h2; exact h2⟩
theorem check_step {xs : List ActR} {A : ActR} {i : Nat} (hA : xs[i]? = some A) (h : stepBad A = true) : checkR xs = 180 := by
  unfold checkR
  rw [if_pos]
  rw [List.any_eq_true]
  exact ⟨A, List.mem_of_getElem? hA, h⟩
theorem no_step {xs : List ActR} (h : ∀ (i : Nat) (A : ActR), xs[i]? = some A → stepBad A = false) : xs.any stepBad = false := by
  rw [List.any_eq_false]
  intro A hA
  obtain ⟨i, hi⟩ := List.getElem?_of_mem hA
  rw [h i A hi]; decide
set_option maxRecDepth 100000 in
set_option maxHeartbeats 8000000 in
theorem check_any (aa : Option Addr) (an ac : Nat) (xs : List ActR) (w : World) (h : ActsV w aa an xs) (hac : an ≤ ac) (hn : an ≤ 1000000) (hkk : KOk xs) :
    Calls Try.prog 16 #[.slice aa an ac] w fun e w' => e = .returned (.int .i64 (checkR xs)) ∧ Below w.heap.size w w' := by
  have hlen := h.len
  have H := Lib.hid h
  have HLEN := Lib.hid hlen
  obtain ⟨R, hR⟩ : ∃ R, R = checkR xs := ⟨_, rfl⟩
  rw [← hR]
  have HR := Lib.hid hR
  have KB := fun W (hW : Below w.heap.size w W) => byKey_any aa an ac xs W (h.below hW) hac hn hkk
  have HKB := Lib.hid KB
  clear h hlen hR KB
  go_enter Try.func16, Try.ntmps16
  go_wp2
  go_loopw [9] (fun v wr => ∃ k : Nat, k ≤ an ∧ v = .int .i64 (k : Nat) ∧ Hid (∀ (i : Nat) (A : ActR), i < k → xs[i]? = some A → stepBad A = false) ∧ Hid (Below w.heap.size w wr)) (fun v _ => an - (intOf v).toNat)
  case atStart => exact ⟨0, Nat.zero_le _, rfl, Lib.hid (fun i A hi => absurd hi (Nat.not_lt_zero _)), Lib.hid (Below.refl _ _)⟩
  case round =>
    obtain ⟨k, hk, rfl, HZ, HB⟩ := hrel
    by_cases hlt : k < an
    · obtain ⟨b, o, A, x, y, z, rfl, hA1, hA, at0⟩ := (H.out.below HB.out).at hlt
      obtain ⟨e0, e1, e2, e3, e4, e5, e6, e7, e8, e9, ea, eb, ec, ed, ee, -⟩ := at0
      have HA1 := Lib.hid hA1
      have hb5 := Lib.hid (HB.out.alloc HB.out.size (.cells (ActC A x y z) 45))
      unfold ActC at hb5
      clear hA1 hA
      have nxt : Hid (stepBad A = false → ∀ (i : Nat) (C : ActR), i < k + 1 → xs[i]? = some C → stepBad C = false) := Lib.hid (fun hs i C hi hC => (by
        by_cases e : i = k
        · rw [e, HA1.out] at hC
          injection hC with hC
          rw [← hC]; exact hs
        · exact HZ.out i C (by omega) hC))
      by_cases h1 : A.st < 0
      · have hbad : R = 180 := HR.out.trans (check_step HA1.out (by simp [stepBad, h1]))
        have HBAD := Lib.hid hbad
        clear hbad nxt
        go_wp2
        go_ret
        exact ⟨by rw [HBAD.out]; rfl, hb5.out⟩
      · by_cases h2 : 0 ≤ A.en
        · by_cases h3 : A.en < A.st
          · have hbad : R = 180 := HR.out.trans (check_step HA1.out (by simp [stepBad, h2, h3]))
            have HBAD := Lib.hid hbad
            clear hbad nxt
            go_wp2
            go_ret
            exact ⟨by rw [HBAD.out]; rfl, hb5.out⟩
          · have hgood : stepBad A = false := by simp only [stepBad, Bool.or_eq_false_iff, Bool.and_eq_false_iff, decide_eq_false_iff_not]; exact ⟨h1, .inr h3⟩
            have HGD := Lib.hid hgood
            clear hgood
            go_wp2
            go_roundw
            case rel => exact ⟨k + 1, by omega, by go_num, Lib.hid (nxt.out HGD.out), hb5⟩
            case measure => simp [intOf]; omega
        · have hgood : stepBad A = false := by simp only [stepBad, Bool.or_eq_false_iff, Bool.and_eq_false_iff, decide_eq_false_iff_not]; exact ⟨h1, .inl h2⟩
          have HGD := Lib.hid hgood
          clear hgood
          go_wp2
          go_roundw
          case rel => exact ⟨k + 1, by omega, by go_num, Lib.hid (nxt.out HGD.out), hb5⟩
          case measure => simp [intOf]; omega
    · obtain rfl : k = an := by omega
      have hns : xs.any stepBad = false := no_step fun i A hA => HZ.out i A (by have := (List.getElem?_eq_some_iff.1 hA).1; have := HLEN.out; omega) hA
      have HNS := Lib.hid hns
      have KK := HKB.out wr HB.out
      clear hns
      go_wp2_with fail
      (with_reducible refine KK.mono ?_)
      rintro e w1 ⟨mb, f, cnt, rfl, hK, b1, hmb⟩
      have K1 := Lib.hid hK
      have B1 := Lib.hid (HB.out.trans (b1.mono HB.out.size))
      clear KK hK b1 hmb
      go_wp2_with (first | (at_range; refine Hid.out ?_))
      refine Lib.hid ?_
      refine wpList_range_p _ rfl _ rfl mb f cnt rfl K1.out.map ?_
      intro w2 m2 hr2 hg2 hs2
      have b2 := grown_noneJ hg2
      obtain ⟨r, hr⟩ : ∃ r, r = w1.heap.size := ⟨_, rfl⟩
      rw [← hr] at hr2 ⊢
      have HRE := Lib.hid hr
      have R2 := Lib.hid hr2
      have B2 := Lib.hid b2
      clear hr hr2 hg2 hs2 b2
      go_frame
      go_wp2_with fail
      go_loopw [6] (fun _ wq => ∃ (left : ByteArray → Bool) (m : Nat), Hid (RangeP wq mb r f left cnt m) ∧ Hid (∀ key hd, f key = some hd → left key = false → (placesOf xs key).length ≤ 12) ∧ Hid (Below w1.heap.size w1 wq)) (fun _ wq => wq.rangeLeft mb r)
      case atStart => exact ⟨_, _, R2, Lib.hid (fun key hd hf hl => (by rw [hf] at hl; cases hl)), B2⟩
      case round =>
        clear R2 B2
        obtain ⟨left, m, HRG, HP, HBQ⟩ := hrel
        go_wp2_with (first | (at_next; refine Hid.out ?_))
        refine Lib.hid ?_
        refine wpList_next_p _ rfl _ rfl mb r f left cnt m rfl HRG.out (fun h0 hl => ?_) (fun key x w3 m3 hfz hlz hr3 hlt3 hg3 hsz3 hen => ?_)
        · have hC : R = 0 := by
            rw [HR.out]
            unfold checkR
            rw [HNS.out]
            simp only [Bool.false_eq_true, if_false]
            rw [if_neg]
            rw [Bool.not_eq_true, List.any_eq_false]
            intro key hk2
            have := (K1.out.seen key).2 hk2
            obtain ⟨hd, hd2⟩ := Option.isSome_iff_exists.1 this
            have := HP.out key hd hd2 (hl key)
            simp; omega
          have HC := Lib.hid hC
          clear hC hl h0
          go_wp2
          go_ret
          exact ⟨by rw [HC.out]; rfl, B1.out.trans (HBQ.out.mono B1.out.size)⟩
        · have hrow := K1.out.rows key x hfz
          obtain ⟨xa, xn, xc⟩ := x
          have hxl : (placesOf xs key).length = xn := by have := hrow.length; simpa using this
          have HXL := Lib.hid hxl
          have HFZ := Lib.hid hfz
          have R3 := Lib.hid hr3
          have B3 := Lib.hid (HBQ.out.grown hg3 HBQ.out.size (fun q hq => by injection hq with hq; have := HRE.out; omega))
          have HLQ := Lib.hid (And.intro HRG.out.left_eq (And.intro hr3.left_eq hlt3))
          simp only at hen
          clear hrow hfz hlz hr3 hlt3 hg3 hsz3 hxl
          by_cases h12 : 12 < xn
          · have hC : R = 201 := by
              rw [HR.out]
              unfold checkR
              rw [HNS.out]
              simp only [Bool.false_eq_true, if_false]
              rw [if_pos]
              rw [List.any_eq_true]
              exact ⟨key, (K1.out.seen key).1 (by rw [HFZ.out]; rfl), by have := HXL.out; simp; omega⟩
            have HC := Lib.hid hC
            clear hC
            have h12' : (12 : Int) < (xn : Int) := by omega
            go_wp2
            go_ret
            exact ⟨by rw [HC.out]; rfl, B1.out.trans (B3.out.mono B1.out.size)⟩
          · have h12' : ¬ (12 : Int) < (xn : Int) := by omega
            go_wp2
            go_roundw
            case rel => exact ⟨_, m3, R3, Lib.hid (fun k2 hd hf hl => (by
              by_cases e : k2 = key
              · have h5 := HXL.out; rw [e]; omega
              · exact HP.out k2 hd hf (by simpa [e] using hl))), B3⟩
            case measure => have := HLQ.out; omega
set_option maxRecDepth 100000 in
set_option maxHeartbeats 8000000 in
theorem orderK_any (aa : Option Addr) (an ac : Nat) (xs : List ActR) (key : ByteArray) (w : World) (h : ActsV w aa an xs) (hac : an ≤ ac) (hn : an ≤ 1000000) (hkk : KOk xs) (hks : key.size ≤ 140737488355328) :
    Calls Try.prog 19 #[.slice aa an ac, .string key] w (GivesOrd w (orderR xs key)) := by
  have KC := check_any aa an ac xs w h hac hn hkk
  have HKB := Lib.hid fun W (hW : Below w.heap.size w W) => byKey_any aa an ac xs W (h.below hW) hac hn hkk
  have HKO := Lib.hid fun (pa : Option Addr) (pn pc : Nat) (P : List Nat) (W : World) (hW : Below w.heap.size w W) (hP : IntsV W (pa, pn, pc) (cnL P)) (hp : ∀ p ∈ P, p < an) (h12 : P.length ≤ 12) => order_any aa an ac xs pa pn pc P W (h.below hW) hP hp h12
  have HLEN := Lib.hid h.len
  have HKS := Lib.hid hks
  obtain ⟨cv, hcv⟩ : ∃ c, c = checkR xs := ⟨_, rfl⟩
  rw [← hcv] at KC
  have HCV := Lib.hid hcv
  clear h hkk hks hcv
  by_cases hc : cv = 0
  · subst hc
    have hO : orderR xs key = ordP xs (placesOf xs key) := by rw [ordP_places, orderR, if_pos HCV.out.symm]
    obtain ⟨O, hOO⟩ : ∃ O, O = orderR xs key := ⟨_, rfl⟩
    rw [← hOO]
    have HO := Lib.hid (hOO.trans hO)
    clear hO hOO
    go_enter Try.func19, Try.ntmps19
    go_wp2_with fail
    (with_reducible refine KC.mono ?_)
    rintro e w1 ⟨rfl, b1⟩
    have KB := HKB.out w1 b1
    have B1 := Lib.hid b1
    clear b1 KC
    go_wp2_with fail
    (with_reducible refine KB.mono ?_)
    rintro e w2 ⟨mb, f, cnt, rfl, hK, b2, hmb⟩
    have K2 := Lib.hid hK
    have B2 := Lib.hid (B1.out.trans (b2.mono B1.out.size))
    clear hK b2 hmb KB
    obtain ⟨⟨ha, hnn, hcc⟩, hhd⟩ : ∃ hd, (f key).getD (none, 0, 0) = hd := ⟨_, rfl⟩
    have hrow : IntsV w2 (ha, hnn, hcc) (cnL (placesOf xs key)) := by
      cases hf : f key with
      | some x => rw [hf] at hhd; simp only [Option.getD_some] at hhd; subst hhd; exact K2.out.rows key _ hf
      | none =>
        rw [hf] at hhd
        injection hhd with e1 e2
        injection e2 with e2 e3
        subst e1 e2 e3
        have : placesOf xs key = [] := places_none (fun hk => by have := (K2.out.seen key).2 hk; rw [hf] at this; cases this)
        rw [this]
        exact ⟨⟨rfl, fun h => absurd h (Nat.lt_irrefl _)⟩, by simp, by simp, fun _ => rfl⟩
    have KO := HKO.out ha hnn hcc (placesOf xs key) w2 B2.out hrow (fun p hp => by have := placesTo_lt hp; have := HLEN.out; omega) (check_len HCV.out.symm key)
    rw [← HO.out] at KO
    have HHD := Lib.hid hhd
    clear hhd hrow
    go_wp2_with (first | (at_lookup; refine wpList_lookup_p _ rfl _ _ rfl mb f cnt rfl K2.out.map key (ha, hnn, hcc) rfl HKS.out HHD.out ?_))
    (with_reducible refine KO.mono ?_)
    rintro e w3 ⟨b3, ⟨r, ra, rc, hr, rfl, hro⟩ | ⟨hr, rfl⟩⟩
    · have HR := Lib.hid hr
      have HRO := Lib.hid (ownsRow_baseJ hro B2.out.size)
      have B3 := Lib.hid (B2.out.trans (b3.mono B2.out.size))
      clear hr hro b3 KO
      go_wp2
      go_ret2
      exact ⟨B3.out, .inl ⟨r, ra, rc, HR.out, rfl, HRO.out⟩⟩
    · have HR := Lib.hid hr
      have B3 := Lib.hid (B2.out.trans (b3.mono B2.out.size))
      clear hr b3 KO
      go_wp2
      go_ret2
      exact ⟨B3.out, .inr ⟨HR.out, rfl⟩⟩
  · have hO : orderR xs key = none := by rw [orderR, if_neg (by rw [← HCV.out]; exact hc)]
    rw [hO]
    have hc2 : (cv == 0) = false := by simpa using hc
    clear hO hc
    go_enter Try.func19, Try.ntmps19
    go_wp2_with fail
    (with_reducible refine KC.mono ?_)
    rintro e w1 ⟨rfl, b1⟩
    have B1 := Lib.hid b1
    clear b1 KC
    have hc3 : (cv != 0) = true := by simp [bne, hc2]
    go_wp2
    go_ret2
    exact ⟨B1.out, .inr ⟨rfl, rfl⟩⟩
set_option maxRecDepth 100000 in
set_option maxHeartbeats 8000000 in
theorem whole_any (aa : Option Addr) (an ac : Nat) (xs : List ActR) (w : World) (h : ActsV w aa an xs) (hac : an ≤ ac) (hn : an ≤ 1000000) (hkk : KOk xs) :
    Calls Try.prog 21 #[.slice aa an ac] w fun e w' => e = .returned (.bool (wholeR xs)) ∧ Below w.heap.size w w' := by
  have KC := check_any aa an ac xs w h hac hn hkk
  have HKB := Lib.hid fun W (hW : Below w.heap.size w W) => byKey_any aa an ac xs W (h.below hW) hac hn hkk
  have HKO := Lib.hid fun (pa : Option Addr) (pn pc : Nat) (P : List Nat) (W : World) (hW : Below w.heap.size w W) (hP : IntsV W (pa, pn, pc) (cnL P)) (hp : ∀ p ∈ P, p < an) (h12 : P.length ≤ 12) => order_any aa an ac xs pa pn pc P W (h.below hW) hP hp h12
  have HLEN := Lib.hid h.len
  obtain ⟨cv, hcv⟩ : ∃ c, c = checkR xs := ⟨_, rfl⟩
  rw [← hcv] at KC
  have HCV := Lib.hid hcv
  clear h hkk hcv
  by_cases hc : cv = 0
  · subst hc
    obtain ⟨R, hR⟩ : ∃ R, R = wholeR xs := ⟨_, rfl⟩
    rw [← hR]
    have HR := Lib.hid hR
    clear hR
    go_enter Try.func21, Try.ntmps21
    go_wp2_with fail
    (with_reducible refine KC.mono ?_)
    rintro e w0 ⟨rfl, b0⟩
    have KB := HKB.out w0 b0
    have B0 := Lib.hid b0
    clear b0 KC
    go_wp2_with fail
    (with_reducible refine KB.mono ?_)
    rintro e w1 ⟨mb, f, cnt, rfl, hK, b1, hmb⟩
    have K1 := Lib.hid hK
    have B1 := Lib.hid (B0.out.trans (b1.mono B0.out.size))
    clear KB hK b1 hmb
    go_wp2_with (first | (at_range; refine Hid.out ?_))
    refine Lib.hid ?_
    refine wpList_range_p _ rfl _ rfl mb f cnt rfl K1.out.map ?_
    intro w2 m2 hr2 hg2 hs2
    have b2 := grown_noneJ hg2
    obtain ⟨r, hr⟩ : ∃ r, r = w1.heap.size := ⟨_, rfl⟩
    rw [← hr] at hr2 ⊢
    have HRE := Lib.hid hr
    have R2 := Lib.hid hr2
    have B2 := Lib.hid b2
    clear hr hr2 hg2 hs2 b2
    go_frame
    go_wp2_with fail
    go_loopw [4] (fun _ wq => ∃ (left : ByteArray → Bool) (m : Nat), Hid (RangeP wq mb r f left cnt m) ∧ Hid (∀ key hd, f key = some hd → left key = false → (ordP xs (placesOf xs key)).isSome = true) ∧ Hid (Below w1.heap.size w1 wq)) (fun _ wq => wq.rangeLeft mb r)
    case atStart => exact ⟨_, _, R2, Lib.hid (fun key hd hf hl => (by rw [hf] at hl; cases hl)), B2⟩
    case round =>
      clear R2 B2
      obtain ⟨left, m, HRG, HP, HBQ⟩ := hrel
      go_wp2_with (first | (at_next; refine Hid.out ?_))
      refine Lib.hid ?_
      refine wpList_next_p _ rfl _ rfl mb r f left cnt m rfl HRG.out (fun h0 hl => ?_) (fun key x w3 m3 hfz hlz hr3 hlt3 hg3 hsz3 hen => ?_)
      · have hC : R = true := by
          rw [HR.out, whole_all HCV.out.symm, List.all_eq_true]
          intro key hk2
          obtain ⟨hd, hd2⟩ := Option.isSome_iff_exists.1 ((K1.out.seen key).2 hk2)
          exact HP.out key hd hd2 (hl key)
        have HC := Lib.hid hC
        clear hC hl h0
        go_wp2
        go_ret
        exact ⟨by rw [HC.out]; rfl, B1.out.trans (HBQ.out.mono B1.out.size)⟩
      · obtain ⟨xa, xn, xc⟩ := x
        have HFZ := Lib.hid hfz
        have R3 := Lib.hid hr3
        have b3 := HBQ.out.grown hg3 HBQ.out.size (fun q hq => by injection hq with hq; have := HRE.out; omega)
        have hrow := (K1.out.rows key _ hfz).below b3
        have KO := HKO.out xa xn xc (placesOf xs key) w3 (B1.out.trans (b3.mono B1.out.size)) hrow (fun p hp => by have := placesTo_lt hp; have := HLEN.out; omega) (check_len HCV.out.symm key)
        have B3 := Lib.hid b3
        have HLQ := Lib.hid (And.intro HRG.out.left_eq (And.intro hr3.left_eq hlt3))
        simp only at hen
        clear hrow hfz hlz hr3 hlt3 hg3 hsz3 b3
        go_wp2_with fail
        (with_reducible refine KO.mono ?_)
        rintro e w4 ⟨b4, ⟨r4, ra, rc, hr4, rfl, hro⟩ | ⟨hr4, rfl⟩⟩
        · have HR4 := Lib.hid hr4
          have B4 := Lib.hid (B3.out.trans (b4.mono B3.out.size))
          have R4 := Lib.hid (R3.out.below b4)
          have HL4 := Lib.hid (R3.out.below b4).left_eq
          clear hr4 hro b4 KO
          go_wp2
          go_roundw
          case rel => exact ⟨_, m3, R4, Lib.hid (fun k2 hd hf hl => (by
            by_cases e : k2 = key
            · rw [e, HR4.out]; rfl
            · exact HP.out k2 hd hf (by simpa [e] using hl))), B4⟩
          case measure => have := HLQ.out; have := HL4.out; omega
        · have hC : R = false := by
            rw [HR.out, whole_all HCV.out.symm, List.all_eq_false]
            exact ⟨key, (K1.out.seen key).1 (by rw [HFZ.out]; rfl), by rw [hr4]; decide⟩
          have HC := Lib.hid hC
          have B4 := Lib.hid (B3.out.trans (b4.mono B3.out.size))
          clear hC hr4 b4 KO
          go_wp2
          go_ret
          exact ⟨by rw [HC.out]; rfl, B1.out.trans (B4.out.mono B1.out.size)⟩
  · have hO : wholeR xs = false := by rw [wholeR, decide_eq_false (by rw [← HCV.out]; exact hc)]; rfl
    rw [hO]
    have hc3 : (cv != 0) = true := by simpa using hc
    clear hO hc
    go_enter Try.func21, Try.ntmps21
    go_wp2_with fail
    (with_reducible refine KC.mono ?_)
    rintro e w1 ⟨rfl, b1⟩
    have B1 := Lib.hid b1
    clear b1 KC
    go_wp2
    go_ret
    exact ⟨rfl, B1.out⟩
end Go.Proofs.Ytnefcbcioemfiaa
