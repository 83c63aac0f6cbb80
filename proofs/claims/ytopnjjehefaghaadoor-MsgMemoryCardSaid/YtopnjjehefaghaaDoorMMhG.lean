/-
  msg's laws: MsgRound's walk.
-/
import Derived.Test.YtopnjjehefaghaaDoorMMhF
namespace Go.Proofs.YtopnjjehefaghaaDoor
open Go.RowKit

theorem enc_cases (M : MsR) : ((encM M).2 = 0) ∨ ((encM M).2 = 110 ∧ (encM M).1 = []) := by
  unfold encM
  split
  · exact .inl rfl
  · exact .inr ⟨rfl, rfl⟩
set_option maxRecDepth 100000 in
set_option maxHeartbeats 16000000 in
theorem msgRound_walk (M : MsR) (xa : Option Addr) (xn xc : Nat) (sa : Option Addr) (sc : Nat) (ia : Option Addr) (ic : Nat) (at_ : Int) (ma : Option Addr) (mn mc : Nat) (ml : List Nat) (w : World) (hN : NmV w) (hM : MsV w M (xa, xn, xc) sa ia) (_wf : (Lit.int .i64 at_).wf = true) (hml : BytesV w (ma, mn, mc) ml) (_ms : mn ≤ 140737488351232) :
    Calls Tryd.prog 6 #[.agg (MsC M (xa, xn, xc) sa sc ia ic), .int .i64 at_, .slice ma mn mc] w fun e w' => e = .returned (.bool true) ∧ Below w.heap.size w w' := by
  have KG := fun w => great_any11 M (xa, xn, xc) sa sc ia ic w
  obtain ⟨GB, hGB⟩ : ∃ g, g = decide (600 < M.sy.length ∨ 200 < M.it.length) := ⟨_, rfl⟩
  rw [← hGB] at KG
  have HGB := Lib.hid hGB
  have HM := Lib.hid hM
  have HML := Lib.hid hml
  have HMLL := Lib.hid (show ml.length = mn from hml.length)
  obtain ⟨b, hb⟩ : ∃ b, b = w.heap.size := ⟨_, rfl⟩
  obtain ⟨w1, hw1⟩ : ∃ x, x = w.alloc (.cells (XC M xa xn xc sa sc ia ic) MMT) := ⟨_, rfl⟩
  have k1 : w1.heap[b]? = some (.cells (XC M xa xn xc sa sc ia ic) MMT (0, 0)) := by rw [hw1, hb]; exact heap_alloc_new w _
  have b1 : Below w.heap.size w w1 := by rw [hw1]; exact below_alloc w _
  have HW1 := Lib.hid hw1
  have HBB := Lib.hid hb
  have K1 := Lib.hid k1
  have B1 := Lib.hid b1
  have KA := alive11_any w1 (hN.below b1)
  clear hM hN hb hw1 k1 b1 hGB hml
  go_enter Tryd.func6, Tryd.ntmps6
  go_upto_region 1 with fail
  rw [← HBB.out, ← HW1.out]
  go_wp2_with fail
  (with_reducible refine KA.mono ?_)
  rintro e w2 ⟨rfl, b2⟩
  have K2 := Lib.hid ((b2.block b (Array.getElem?_eq_some_iff.1 K1.out).1).trans K1.out)
  have B2 := Lib.hid (B1.out.trans (b2.mono B1.out.size))
  obtain ⟨⟨c0, c1, c2, c3, c4, c5, c6⟩, c7, c8, c9, c10, c11, c12, c13⟩ := cells14 K2.out
  clear KA b2
  go_wp2_with fail
  (with_reducible refine (KG _).mono ?_)
  rintro e w3 ⟨rfl, b3⟩
  have K3 := Lib.hid ((b3.block b (Array.getElem?_eq_some_iff.1 K2.out).1).trans K2.out)
  have B3 := Lib.hid (B2.out.trans (b3.mono B2.out.size))
  clear KG b3 c0 c1 c2 c3 c4 c5 c6 c7 c8 c9 c10 c11 c12 c13
  cases GB with
  | true =>
    go_wp2
    go_ret
    exact ⟨rfl, B3.out⟩
  | false =>
  by_cases hmore : (1000 : Int) < (mn : Int)
  · go_wp2
    go_ret
    exact ⟨rfl, B3.out⟩
  have hgr := of_decide_eq_false HGB.out.symm
  have HS1 := Lib.hid (show M.sy.length ≤ 10000 by omega)
  have HS2 := Lib.hid (show M.it.length ≤ 10000 by omega)
  have KC := copyMsg_any M (xa, xn, xc) sa sc ia ic w3 (HM.out.below B3.out) HS1.out HS2.out
  clear hgr
  obtain ⟨⟨c0, c1, c2, c3, c4, c5, c6⟩, c7, c8, c9, c10, c11, c12, c13⟩ := cells14 K3.out
  go_wp2_with fail
  (with_reducible refine KC.mono ?_)
  rintro e w4 ⟨⟨ya, yn, yc⟩, ta, tc, ja, jc, rfl, v4, b4⟩
  have K4 := Lib.hid ((b4.block b (Array.getElem?_eq_some_iff.1 K3.out).1).trans K3.out)
  have B4 := Lib.hid (B3.out.trans (b4.mono B3.out.size))
  have KX := encode_anyM M (ya, yn, yc) ta tc ja jc w4 v4
  unfold GivesM at KX
  have hle := encM_len M
  have hca := enc_cases M
  obtain ⟨⟨L, E⟩, hE⟩ : ∃ p, p = encM M := ⟨_, rfl⟩
  rw [← hE] at KX hle hca
  simp only at hle hca
  have HE := Lib.hid hE
  have HCA := Lib.hid hca
  clear hE hca KC v4 b4 c0 c1 c2 c3 c4 c5 c6 c7 c8 c9 c10 c11 c12 c13
  go_wp2_with fail
  (with_reducible refine KX.mono ?_)
  rintro e w5 ⟨ad5, cap5, rfl, o5, y5, b5⟩
  have K5 := Lib.hid ((b5.block b (Array.getElem?_eq_some_iff.1 K4.out).1).trans K4.out)
  have B5 := Lib.hid (B4.out.trans (b5.mono B4.out.size))
  have hby5 := ownBytes o5 y5 (by omega)
  obtain ⟨n5, hn5⟩ : ∃ n, n = L.length := ⟨_, rfl⟩
  rw [← hn5] at hby5 hle ⊢
  have HBY := Lib.hid hby5
  have HN5 := Lib.hid hn5
  have HYB := Lib.hid y5
  clear KX o5 y5 b5 hby5 hn5
  by_cases hE0 : E = 0
  · subst hE0
    have hok : (encM M).2 = 0 := by rw [← HE.out]
    have HOK := Lib.hid hok
    have HLE := Lib.hid (show (encM M).1 = L by rw [← HE.out])
    have KCB := copyBytes_any ad5 n5 cap5 L w5 HBY.out
    clear hok
    go_wp2_with fail
    (with_reducible refine KCB.mono ?_)
    rintro e w6 ⟨a6, c6', rfl, o6, b6⟩
    have hby6 := ownBytes o6 HYB.out (by rw [← HN5.out]; omega)
    have K6 := Lib.hid ((b6.block b (Array.getElem?_eq_some_iff.1 K5.out).1).trans K5.out)
    have B6 := Lib.hid (B5.out.trans (b6.mono B5.out.size))
    have HBY6 := Lib.hid (HBY.out.below b6)
    have KD := decodeM_any a6 L.length c6' L w6 hby6
    have hde : decM L = (M, 0) := by have := dec_of_enc HOK.out; rw [HLE.out] at this; exact this
    rw [hde] at KD
    unfold GivesD at KD
    clear KCB o6 b6 hby6 hde
    go_wp2_with fail
    (with_reducible refine KD.mono ?_)
    rintro e w7 ⟨⟨za, zn, zc⟩, ua, uc, va, vc, rfl, ow7, b7⟩
    obtain ⟨q, hq⟩ : ∃ q, q = w7.heap.size := ⟨_, rfl⟩
    obtain ⟨w8, hw8⟩ : ∃ x, x = w7.alloc (.cells (XC M za zn zc ua uc va vc) MMT) := ⟨_, rfl⟩
    have b8 : Below w7.heap.size w7 w8 := by rw [hw8]; exact below_alloc w7 _
    have j8 : w8.heap[q]? = some (.cells (XC M za zn zc ua uc va vc) MMT (0, 0)) := by rw [hw8, hq]; exact heap_alloc_new w7 _
    have k7 := (b7.block b (Array.getElem?_eq_some_iff.1 K6.out).1).trans K6.out
    have hB7 := B6.out.trans (b7.mono B6.out.size)
    have K8 := Lib.hid ((b8.block b (Array.getElem?_eq_some_iff.1 k7).1).trans k7)
    have J8 := Lib.hid j8
    have B8 := Lib.hid (hB7.trans (b8.mono hB7.size))
    have V8 := Lib.hid (ow7.v.below b8)
    have HBY8 := Lib.hid ((HBY6.out.below b7).below b8)
    have hqw : w.heap.size ≤ q := by rw [hq]; exact hB7.size
    have HAP : Hid (0 < n5 → ∀ a, ad5 = some a → a.block ≠ q) := Lib.hid (fun h0 a ha e => by
      have := (HBY6.out.below b7).row.lt h0 ha
      omega)
    have HW8 := Lib.hid hw8
    have HQ := Lib.hid hq
    clear KD ow7 b7 k7 hB7 hq hw8 b8 j8
    go_upto_region 9 with fail
    rw [← HW8.out, ← HQ.out]
    obtain ⟨⟨c0, c1, c2, c3, c4, c5, c6⟩, c7, c8, c9, c10, c11, c12, c13⟩ := cells14 K8.out
    obtain ⟨⟨d0, d1, d2, d3, d4, d5, d6⟩, d7, d8, d9, d10, d11, d12, d13⟩ := cells14 J8.out
    have KS := sameMsg_any M M (za, zn, zc) ua uc va vc (xa, xn, xc) sa sc ia ic w8 V8.out (HM.out.below B8.out) (Nat.le_trans HS1.out (by decide)) (Nat.le_trans HS2.out (by decide))
    rw [decide_eq_true rfl] at KS
    have hnbig : ¬ (65536 : Int) < (n5 : Int) := by omega
    go_wp2_with fail
    (with_reducible refine KS.mono ?_)
    rintro e w9 ⟨rfl, b9⟩
    have J9 := Lib.hid ((b9.block q (Array.getElem?_eq_some_iff.1 J8.out).1).trans J8.out)
    have B9 := Lib.hid (B8.out.trans (b9.mono B8.out.size))
    have HBY9 := Lib.hid (HBY8.out.below b9)
    clear KS b9 c0 c1 c2 c3 c4 c5 c6 c7 c8 c9 c10 c11 c12 c13 d0 d1 d2 d3 d4 d5 d6 d7 d8 d9 d10 d11 d12 d13
    go_upto_region 11 with fail
    clear hnbig
    by_cases hat : 0 ≤ at_ ∧ at_ < (n5 : Int)
    · obtain ⟨k, rfl⟩ : ∃ k : Nat, at_ = (k : Int) := ⟨at_.toNat, by omega⟩
      have hkn : k < n5 := by omega
      have hk0 : (0 : Int) ≤ (k : Int) := by omega
      have hki : (k : Int) < (n5 : Int) := by omega
      clear hat
      have hcap := HBY9.out.cap
      simp only at hcap
      have hkc : (k : Int) ≤ (cap5 : Int) := by omega
      have htk := bytesV_takeM HBY9.out (show k ≤ n5 by omega)
      have hdc := dec_cut HOK.out (k := k) (by rw [HLE.out, ← HN5.out]; exact hkn)
      rw [HLE.out] at hdc
      obtain ⟨T, hT⟩ : ∃ T, T = L.take k := ⟨_, rfl⟩
      rw [← hT] at htk hdc
      have hTl : T.length = k := by rw [hT, List.length_take]; have := HN5.out; omega
      have KCB := copyBytes_any ad5 k cap5 T w9 htk
      have HTB := Lib.hid htk.bytes
      have HDC := Lib.hid (show decM T = (zeroM, 110) from Prod.ext hdc.2 hdc.1)
      have HTL := Lib.hid hTl
      clear hcap htk hdc hT hTl
      go_wp2_with fail
      (with_reducible refine KCB.mono ?_)
      rintro e w10 ⟨a10, c10', rfl, o10, b10⟩
      have hby10 := ownBytes o10 HTB.out (by rw [HTL.out]; omega)
      have J10 := Lib.hid ((b10.block q (Array.getElem?_eq_some_iff.1 J9.out).1).trans J9.out)
      have B10 := Lib.hid (B9.out.trans (b10.mono B9.out.size))
      have HBY10 := Lib.hid (HBY9.out.below b10)
      have KD := decodeM_any a10 T.length c10' T w10 hby10
      rw [HDC.out] at KD
      unfold GivesD at KD
      clear KCB o10 b10 hby10
      go_wp2_with fail
      (with_reducible refine KD.mono ?_)
      rintro e w11 ⟨⟨za2, zn2, zc2⟩, ua2, uc2, va2, vc2, rfl, -, b11⟩
      have hj11 := (b11.block q (Array.getElem?_eq_some_iff.1 J10.out).1).trans J10.out
      have J11 := Lib.hid hj11
      have B11 := Lib.hid (B10.out.trans (b11.mono B10.out.size))
      have HBY11 := Lib.hid (HBY10.out.below b11)
      obtain ⟨⟨d0, d1, d2, d3, d4, d5, d6⟩, d7, d8, d9, d10, d11, d12, d13⟩ := cells14 hj11
      have hfz := frozen_none hj11
      clear KD b11 hj11
      go_upto_region 13 with fail
      clear d0 d1 d2 d3 d4 d5 d6 d7 d8 d9 d10 d11 d12 d13 hfz
      have hh := heap_setsFrom 0 (XC zeroM za2 zn2 zc2 ua2 uc2 va2 vc2).toList J11.out (l' := (XC zeroM za2 zn2 zc2 ua2 uc2 va2 vc2).toList) rfl
      have hgr := grown_setsFrom (g := q) (XC zeroM za2 zn2 zc2 ua2 uc2 va2 vc2).toList 0 w11
      refine (?_ : ∀ W : World, Hid (W.heap[q]? = some (.cells (XC zeroM za2 zn2 zc2 ua2 uc2 va2 vc2) MMT (0, 0))) → Hid (w11.grownBy W (some q)) → Code.wp Tryd.prog _ _ _ W) _ (Lib.hid hh) (Lib.hid hgr)
      clear hh hgr
      intro W HH12 HG12
      have d0 : W.cell? ⟨q, 0, none⟩ = some (.int .i64 0) := cell_of_row _ _ 0 _ _ _ HH12.out
      go_upto_region 15 with fail
      clear d0
      have HBYZ := Lib.hid (HBY11.out.keptR (fun h0 a ha => HG12.out.block a.block (HBY11.out.row.lt h0 ha) (fun e => by injection e with e; exact HAP.out h0 a ha e)))
      have BZ := Lib.hid (B11.out.grown HG12.out B11.out.size (fun i hi => by injection hi with hi; omega))
      obtain ⟨wz, hwz⟩ : ∃ x, x = W := ⟨_, rfl⟩
      rw [← hwz] at HBYZ BZ ⊢
      clear hwz
      have KCB := copyBytes_any ad5 n5 cap5 L wz HBYZ.out
      go_wp2_with fail
      (with_reducible refine KCB.mono ?_)
      rintro e w20 ⟨a20, c20, rfl, o20, b20⟩
      have B20 := Lib.hid (BZ.out.trans (b20.mono BZ.out.size))
      rw [← HN5.out] at o20 ⊢
      have HML20 := Lib.hid (HML.out.below B20.out)
      have hsz20 := b20.size
      have HO20 := Lib.hid o20
      have HLO := Lib.hid (show ∀ i, (Value.slice a20 n5 c20).ownBlock = some i → w.heap.size ≤ i from fun i hi => Nat.le_trans BZ.out.size (o20.lt i hi).1)
      obtain ⟨i0, hi, hz0, hz1, hz2⟩ := info_partsM Tryd.infoU8
      clear KCB o20 b20
      go_wp2_with (first | (at_builtin; refine Hid.out ?_))
      refine Lib.hid ?_
      refine wpList_append_row rfl (.tmp 85) (.tmp 86) 24 rfl wz.heap.size 5 i0 (.int .u8 0) 1 Tryd.underlying24 hi hz0 hz1 hz2 rfl _ _ _ rfl HO20.out ma mn mc (ml.map bv) rfl HML20.out.row HML20.out.nil (bv_one ml) (by unfold maxLen; omega) (by omega) (by omega) ?_
      intro v21 w21 hown21 hgrow21 _
      obtain ⟨a21, c21, rfl, -⟩ := ownsRow_parts hown21
      have B21 := Lib.hid (B20.out.grown hgrow21 B20.out.size HLO.out)
      have hrow : w21.ownsRow wz.heap.size 5 1 (.slice a21 (L ++ ml).length c21) (L ++ ml).length ((L ++ ml).map bv) := by
        rw [List.length_append, ← HN5.out, HMLL.out, List.map_append]; exact hown21
      have hall : BytesV w21 (a21, (L ++ ml).length, c21) (L ++ ml) := ownBytes hrow (bytes_appM HYB.out HML.out.bytes) (by rw [List.length_append, ← HN5.out, HMLL.out]; omega)
      have hlen : (L ++ ml).length = n5 + mn := by rw [List.length_append, ← HN5.out, HMLL.out]
      rw [hlen] at hall
      have KD := decodeM_any a21 (n5 + mn) c21 (L ++ ml) w21 hall
      have hap := dec_apart HOK.out ml
      rw [HLE.out] at hap
      obtain ⟨⟨N, F⟩, hN⟩ : ∃ p, p = decM (L ++ ml) := ⟨_, rfl⟩
      rw [← hN] at KD hap
      simp only at hap
      unfold GivesD at KD
      have hF : (F == 0) = decide ((mn : Int) = 0) := by
        have h1 : ml = [] ↔ mn = 0 := by rw [← HMLL.out]; exact List.length_eq_zero_iff.symm
        by_cases h : F = 0
        · rw [h]; rw [decide_eq_true (by have := h1.1 (hap.1 h); omega)]; rfl
        · rw [beq_eq_false_iff_ne.2 h, decide_eq_false (fun e => h (hap.2 (h1.2 (by omega))))]
      have HF := Lib.hid hF
      clear hgrow21 hown21 hrow hall hlen hap hN hF
      go_wp2_with fail
      (with_reducible refine KD.mono ?_)
      rintro e w22 ⟨⟨za3, zn3, zc3⟩, ua3, uc3, va3, vc3, rfl, -, b22⟩
      have B22 := Lib.hid (B21.out.trans (b22.mono B21.out.size))
      clear KD b22
      go_wp2
      go_ret
      exact ⟨by show Ending.returned (.bool ((F == 0) == ((mn : Int) == 0))) = .returned (.bool true); rw [HF.out]; by_cases h : (mn : Int) = 0; (rw [decide_eq_true h, beq_iff_eq.2 h]; rfl); (rw [decide_eq_false h, beq_eq_false_iff_ne.2 h]; rfl), B22.out⟩
    · have hpk : ¬ (0 : Int) ≤ at_ ∨ ¬ at_ < (n5 : Int) := by
        by_cases h : (0 : Int) ≤ at_
        · exact .inr (fun h2 => hat ⟨h, h2⟩)
        · exact .inl h
      clear hat
      have HBYZ := HBY9
      have BZ := B9
      obtain ⟨wz, hwz⟩ : ∃ x, x = w9 := ⟨_, rfl⟩
      rw [← hwz] at HBYZ BZ ⊢
      clear hwz
      by_cases h0 : (0 : Int) ≤ at_
      · have h1 : ¬ at_ < (n5 : Int) := by rcases hpk with h | h; exact absurd h0 h; exact h
        clear hpk
        go_upto_region 15 with fail
        have KCB := copyBytes_any ad5 n5 cap5 L wz HBYZ.out
        go_wp2_with fail
        (with_reducible refine KCB.mono ?_)
        rintro e w20 ⟨a20, c20, rfl, o20, b20⟩
        have B20 := Lib.hid (BZ.out.trans (b20.mono BZ.out.size))
        rw [← HN5.out] at o20 ⊢
        have HML20 := Lib.hid (HML.out.below B20.out)
        have hsz20 := b20.size
        have HO20 := Lib.hid o20
        have HLO := Lib.hid (show ∀ i, (Value.slice a20 n5 c20).ownBlock = some i → w.heap.size ≤ i from fun i hi => Nat.le_trans BZ.out.size (o20.lt i hi).1)
        obtain ⟨i0, hi, hz0, hz1, hz2⟩ := info_partsM Tryd.infoU8
        clear KCB o20 b20
        go_wp2_with (first | (at_builtin; refine Hid.out ?_))
        refine Lib.hid ?_
        refine wpList_append_row rfl (.tmp 85) (.tmp 86) 24 rfl wz.heap.size 5 i0 (.int .u8 0) 1 Tryd.underlying24 hi hz0 hz1 hz2 rfl _ _ _ rfl HO20.out ma mn mc (ml.map bv) rfl HML20.out.row HML20.out.nil (bv_one ml) (by unfold maxLen; omega) (by omega) (by omega) ?_
        intro v21 w21 hown21 hgrow21 _
        obtain ⟨a21, c21, rfl, -⟩ := ownsRow_parts hown21
        have B21 := Lib.hid (B20.out.grown hgrow21 B20.out.size HLO.out)
        have hrow : w21.ownsRow wz.heap.size 5 1 (.slice a21 (L ++ ml).length c21) (L ++ ml).length ((L ++ ml).map bv) := by
          rw [List.length_append, ← HN5.out, HMLL.out, List.map_append]; exact hown21
        have hall : BytesV w21 (a21, (L ++ ml).length, c21) (L ++ ml) := ownBytes hrow (bytes_appM HYB.out HML.out.bytes) (by rw [List.length_append, ← HN5.out, HMLL.out]; omega)
        have hlen : (L ++ ml).length = n5 + mn := by rw [List.length_append, ← HN5.out, HMLL.out]
        rw [hlen] at hall
        have KD := decodeM_any a21 (n5 + mn) c21 (L ++ ml) w21 hall
        have hap := dec_apart HOK.out ml
        rw [HLE.out] at hap
        obtain ⟨⟨N, F⟩, hN⟩ : ∃ p, p = decM (L ++ ml) := ⟨_, rfl⟩
        rw [← hN] at KD hap
        simp only at hap
        unfold GivesD at KD
        have hF : (F == 0) = decide ((mn : Int) = 0) := by
          have h1 : ml = [] ↔ mn = 0 := by rw [← HMLL.out]; exact List.length_eq_zero_iff.symm
          by_cases h : F = 0
          · rw [h]; rw [decide_eq_true (by have := h1.1 (hap.1 h); omega)]; rfl
          · rw [beq_eq_false_iff_ne.2 h, decide_eq_false (fun e => h (hap.2 (h1.2 (by omega))))]
        have HF := Lib.hid hF
        clear hgrow21 hown21 hrow hall hlen hap hN hF
        go_wp2_with fail
        (with_reducible refine KD.mono ?_)
        rintro e w22 ⟨⟨za3, zn3, zc3⟩, ua3, uc3, va3, vc3, rfl, -, b22⟩
        have B22 := Lib.hid (B21.out.trans (b22.mono B21.out.size))
        clear KD b22
        go_wp2
        go_ret
        exact ⟨by show Ending.returned (.bool ((F == 0) == ((mn : Int) == 0))) = .returned (.bool true); rw [HF.out]; by_cases h : (mn : Int) = 0; (rw [decide_eq_true h, beq_iff_eq.2 h]; rfl); (rw [decide_eq_false h, beq_eq_false_iff_ne.2 h]; rfl), B22.out⟩
      · clear hpk
        go_upto_region 15 with fail
        have KCB := copyBytes_any ad5 n5 cap5 L wz HBYZ.out
        go_wp2_with fail
        (with_reducible refine KCB.mono ?_)
        rintro e w20 ⟨a20, c20, rfl, o20, b20⟩
        have B20 := Lib.hid (BZ.out.trans (b20.mono BZ.out.size))
        rw [← HN5.out] at o20 ⊢
        have HML20 := Lib.hid (HML.out.below B20.out)
        have hsz20 := b20.size
        have HO20 := Lib.hid o20
        have HLO := Lib.hid (show ∀ i, (Value.slice a20 n5 c20).ownBlock = some i → w.heap.size ≤ i from fun i hi => Nat.le_trans BZ.out.size (o20.lt i hi).1)
        obtain ⟨i0, hi, hz0, hz1, hz2⟩ := info_partsM Tryd.infoU8
        clear KCB o20 b20
        go_wp2_with (first | (at_builtin; refine Hid.out ?_))
        refine Lib.hid ?_
        refine wpList_append_row rfl (.tmp 85) (.tmp 86) 24 rfl wz.heap.size 5 i0 (.int .u8 0) 1 Tryd.underlying24 hi hz0 hz1 hz2 rfl _ _ _ rfl HO20.out ma mn mc (ml.map bv) rfl HML20.out.row HML20.out.nil (bv_one ml) (by unfold maxLen; omega) (by omega) (by omega) ?_
        intro v21 w21 hown21 hgrow21 _
        obtain ⟨a21, c21, rfl, -⟩ := ownsRow_parts hown21
        have B21 := Lib.hid (B20.out.grown hgrow21 B20.out.size HLO.out)
        have hrow : w21.ownsRow wz.heap.size 5 1 (.slice a21 (L ++ ml).length c21) (L ++ ml).length ((L ++ ml).map bv) := by
          rw [List.length_append, ← HN5.out, HMLL.out, List.map_append]; exact hown21
        have hall : BytesV w21 (a21, (L ++ ml).length, c21) (L ++ ml) := ownBytes hrow (bytes_appM HYB.out HML.out.bytes) (by rw [List.length_append, ← HN5.out, HMLL.out]; omega)
        have hlen : (L ++ ml).length = n5 + mn := by rw [List.length_append, ← HN5.out, HMLL.out]
        rw [hlen] at hall
        have KD := decodeM_any a21 (n5 + mn) c21 (L ++ ml) w21 hall
        have hap := dec_apart HOK.out ml
        rw [HLE.out] at hap
        obtain ⟨⟨N, F⟩, hN⟩ : ∃ p, p = decM (L ++ ml) := ⟨_, rfl⟩
        rw [← hN] at KD hap
        simp only at hap
        unfold GivesD at KD
        have hF : (F == 0) = decide ((mn : Int) = 0) := by
          have h1 : ml = [] ↔ mn = 0 := by rw [← HMLL.out]; exact List.length_eq_zero_iff.symm
          by_cases h : F = 0
          · rw [h]; rw [decide_eq_true (by have := h1.1 (hap.1 h); omega)]; rfl
          · rw [beq_eq_false_iff_ne.2 h, decide_eq_false (fun e => h (hap.2 (h1.2 (by omega))))]
        have HF := Lib.hid hF
        clear hgrow21 hown21 hrow hall hlen hap hN hF
        go_wp2_with fail
        (with_reducible refine KD.mono ?_)
        rintro e w22 ⟨⟨za3, zn3, zc3⟩, ua3, uc3, va3, vc3, rfl, -, b22⟩
        have B22 := Lib.hid (B21.out.trans (b22.mono B21.out.size))
        clear KD b22
        go_wp2
        go_ret
        exact ⟨by show Ending.returned (.bool ((F == 0) == ((mn : Int) == 0))) = .returned (.bool true); rw [HF.out]; by_cases h : (mn : Int) = 0; (rw [decide_eq_true h, beq_iff_eq.2 h]; rfl); (rw [decide_eq_false h, beq_eq_false_iff_ne.2 h]; rfl), B22.out⟩
  · have hE1 : E = 110 := by rcases HCA.out with h | h; exact absurd h hE0; exact h.1
    have hL0 : L = [] := by rcases HCA.out with h | h; exact absurd h hE0; exact h.2
    have hn0 : n5 = 0 := by rw [HN5.out, hL0]; rfl
    subst hE1 hn0
    have KC := copyMsg_any M (xa, xn, xc) sa sc ia ic w5 (HM.out.below B5.out) HS1.out HS2.out
    obtain ⟨⟨c0, c1, c2, c3, c4, c5, c6⟩, c7, c8, c9, c10, c11, c12, c13⟩ := cells14 K5.out
    clear hE0 hL0
    go_wp2_with fail
    (with_reducible refine KC.mono ?_)
    rintro e w6 ⟨⟨za, zn, zc⟩, ua, uc, va, vc, rfl, v6, b6⟩
    have KK := check_anyM M (za, zn, zc) ua uc va vc w6 v6
    have hck : decide ((encM M).2 = 0) = false := by rw [← HE.out]; rfl
    rw [hck] at KK
    have B6 := Lib.hid (B5.out.trans (b6.mono B5.out.size))
    clear KC v6 b6 hck c0 c1 c2 c3 c4 c5 c6 c7 c8 c9 c10 c11 c12 c13
    go_wp2_with fail
    (with_reducible refine KK.mono ?_)
    rintro e w7 ⟨rfl, b7⟩
    have B7 := Lib.hid (B6.out.trans (b7.mono B6.out.size))
    clear KK b7
    go_wp2
    go_ret
    exact ⟨rfl, B7.out⟩

end Go.Proofs.YtopnjjehefaghaaDoor
