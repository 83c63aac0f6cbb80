/-
  rillref09: Encode of a right record.
-/
import Derived.Test.YtikjcmijmhmilaaMeT
namespace Go.Proofs.Ytikjcmijmhmilaa
open Go.RowKit

theorem own_lit2M (w : World) (x y : Int) : (w.alloc (.cells #[.int .u8 x, .int .u8 y] 5)).ownsRow w.heap.size 5 1 (.slice (some ⟨w.heap.size, 0, none⟩) 2 2) 2 [.int .u8 x, .int .u8 y] :=
  ⟨rfl, .inr ⟨w.heap.size, 2, #[.int .u8 x, .int .u8 y], rfl, Nat.le_refl _, heap_alloc_new w _, by decide, by decide, rfl, rfl⟩⟩
theorem u8_small (n : Int) (h0 : 0 ≤ n) (h : n < 256) : IntKind.u8.wrap n = ((n.toNat % 256 : Nat) : Int) := by
  simp [IntKind.wrap, IntKind.bits, IntKind.signed]
  omega
theorem own_belowM {w w' : World} {B n s : Nat} {T : TypeId} {v : Value} {xs : List Value} (h : w.ownsRow B T s v n xs) (hb : Below w.heap.size w w') : w'.ownsRow B T s v n xs := by
  refine ⟨h.1, ?_⟩
  rcases h.2 with e | ⟨g, cp, cur, e, hg, hh, rest⟩
  · exact .inl e
  · exact .inr ⟨g, cp, cur, e, hg, (hb.block g (Array.getElem?_eq_some_iff.1 hh).1).trans hh, rest⟩
theorem rowV_four {w : World} {g : Nat} {a b c d : Nat} {fr : Nat × Nat} (h : w.heap[g]? = some (.cells #[.int .u8 (a : Nat), .int .u8 (b : Nat), .int .u8 (c : Nat), .int .u8 (d : Nat)] 5 fr)) : RowV w (some ⟨g, 0, none⟩) 4 ([a, b, c, d].map bv) :=
  ⟨rfl, fun _ => ⟨g, 0, rfl, fun i hi => by
    rw [cell_of_row _ _ _ _ _ _ h]
    rcases (by omega : i = 0 ∨ i = 1 ∨ i = 2 ∨ i = 3) with rfl | rfl | rfl | rfl <;> rfl⟩⟩
theorem refPut_is (B base n W : Nat) (l : List Nat) (ad0 : Option Addr) (cap0 : Nat) (w : World) (hown : w.ownsRow base 5 1 (.slice ad0 l.length cap0) l.length (l.map bv)) (hB : B ≤ base) (hs : base ≤ w.heap.size) (hW : W ≤ 4) (hl : l.length ≤ 100000000) (v : Int) (hv : (W : Int) = v) (x : Int) (hx : (n : Int) = x) :
    Calls Try.prog 31 #[.slice ad0 l.length cap0, .int .i64 x, .int .i64 v] w fun e w' => ∃ ad cap, e = .returned (.slice ad (l ++ numL n W).length cap) ∧ w'.ownsRow base 5 1 (.slice ad (l ++ numL n W).length cap) (l ++ numL n W).length ((l ++ numL n W).map bv) ∧ Below B w w' ∧ KeepT w w' := by
  subst hv hx
  exact refPut_any B base n W l ad0 cap0 w hown hB hs hW hl
set_option maxRecDepth 100000 in
set_option maxHeartbeats 16000000 in
theorem refEncode_yes (k : Int) (key : ByteArray) (N c s t : Int) (d : Bool) (sa : Option Addr) (sn sc : Nat) (sum : List Nat) (pa : Option Addr) (pn pc : Nat) (P : Nat → PlR) (w : World) (hS : BytesV w (sa, sn, sc) sum) (hP : PlacesV w pa pn pc P) (hR : rightB k key N c s t d sn P pn = true) :
    Calls Try.prog 17 #[.agg #[.int .i64 k, .string key, .int .i64 N, .int .i64 c, .int .i64 s, .int .i64 t, .bool d, .slice sa sn sc, .slice pa pn pc]] w fun e w' => ∃ ad cap, e = .returned (.tuple #[.slice ad (encL k key N c s t d sum P pn).length cap, .int .i64 0]) ∧ w'.ownsRow w.heap.size 5 1 (.slice ad (encL k key N c s t d sum P pn).length cap) (encL k key N c s t d sum P pn).length ((encL k key N c s t d sum P pn).map bv) ∧ Below w.heap.size w w' := by
  obtain ⟨k1, k4, ks, N0, N1, e0, e1, s0, s1, t0, t1, sn32, pn512, hpl⟩ := right_facts hR
  obtain ⟨k, rfl⟩ : ∃ n : Nat, k = n := ⟨k.toNat, by omega⟩
  obtain ⟨N, rfl⟩ : ∃ n : Nat, N = n := ⟨N.toNat, by omega⟩
  obtain ⟨c, rfl⟩ : ∃ n : Nat, c = n := ⟨c.toNat, by omega⟩
  obtain ⟨s, rfl⟩ : ∃ n : Nat, s = n := ⟨s.toNat, by omega⟩
  obtain ⟨t, rfl⟩ : ∃ n : Nat, t = n := ⟨t.toNat, by omega⟩
  obtain ⟨i0, hi, hz0, hz1, hz2⟩ := info_partsM Try.infoU8
  have KR := good_any k key N c s t d sa sn sc pa pn pc P
  simp only [hR] at KR
  have HSL : sum.length = sn := hS.length
  obtain ⟨E, hE⟩ : ∃ E, E = encL k key N c s t d sum P pn := ⟨_, rfl⟩
  rw [← hE]
  have HE := Lib.hid hE
  have HS := Lib.hid hS
  have HP := Lib.hid hP
  have HPL := Lib.hid hpl
  obtain ⟨w1', hw1⟩ : ∃ x, x = w.alloc (.cells #[.int .i64 k, .string key, .int .i64 N, .int .i64 c, .int .i64 s, .int .i64 t, .bool d, .slice sa sn sc, .slice pa pn pc] RT9) := ⟨_, rfl⟩
  have b1 : Below w.heap.size w w1' := by rw [hw1]; exact below_alloc w _
  have h1 : w1'.heap[w.heap.size]? = some (.cells #[.int .i64 k, .string key, .int .i64 N, .int .i64 c, .int .i64 s, .int .i64 t, .bool d, .slice sa sn sc, .slice pa pn pc] RT9 (0, 0)) := by rw [hw1]; exact heap_alloc_new w _
  have HW1 := Lib.hid hw1
  have KR1 := KR w1' (hP.below b1) (by omega)
  obtain ⟨c0, c1, c2, c3, c4, c5, c6, c7, c8⟩ := cells9M h1
  clear hE hS hP hpl KR hR hw1
  go_enter Try.func17, Try.ntmps17
  go_upto_region 1 with fail
  rw [← HW1.out]
  go_wp2_with fail
  (with_reducible refine KR1.mono ?_)
  rintro e w2' ⟨rfl, b2⟩
  have hh2 := (b2.block _ (Array.getElem?_eq_some_iff.1 h1).1).trans h1
  have hb2 := b1.trans (b2.mono b1.size)
  obtain ⟨b, hb⟩ : ∃ b, b = w2'.heap.size := ⟨_, rfl⟩
  have hwb : w.heap.size < b := by rw [hb]; exact (Array.getElem?_eq_some_iff.1 hh2).1
  have HC := Lib.hid (show ∀ w3, Below b w2' w3 → _ from fun w3 b3 => cells9M ((b3.block w.heap.size hwb).trans hh2))
  have HB2 := Lib.hid hb2
  have HBB := Lib.hid hb
  clear c0 c1 c2 c3 c4 c5 c6 c7 c8 KR1 b2 h1 b1 hh2 hb2 hb
  obtain ⟨c0, c1, c2, c3, c4, c5, c6, c7, c8⟩ := HC.out w2' (Below.refl _ _)
  go_upto_region 4 with fail
  rw [← HBB.out]
  obtain ⟨w0, hw0⟩ : ∃ x, x = w2'.alloc (.cells #[.int .u8 (k : Nat), .int .u8 (key.size : Nat)] 5) := ⟨_, rfl⟩
  have hB0 : Below b w2' w0 := by rw [hw0, HBB.out]; exact below_alloc w2' _
  have hV0 : w0.ownsRow b 5 1 (.slice (some ⟨b, 0, none⟩) 2 2) 2 ([k, key.size].map bv) := by rw [hw0, HBB.out]; exact own_lit2M w2' k key.size
  have hs0 : b ≤ w0.heap.size := by have h1 := hB0.size; have h2 := HBB.out; omega
  rw [← hw0]
  refine (?_ : Code.wp _ _ _ { tmps := _, defers := [] } _)
  have HO0 := Lib.hid hV0
  clear hV0 hw0 c0 c1 c2 c3 c4 c5 c6 c7 c8
  obtain ⟨c0, c1, c2, c3, c4, c5, c6, c7, c8⟩ := HC.out w0 hB0
  have hcv := run_bytes_of_string (P := Try.prog) w0 9 32 5 key Try.underlying9 Try.underlying32 Try.underlying5
  obtain ⟨kc, hkc⟩ : ∃ c, c = grownCap w0 key.size 0 5 := ⟨_, rfl⟩
  rw [← hkc] at hcv
  obtain ⟨wk, hwk⟩ : ∃ x, x = w0.drew.alloc (.cells (bytesRow key kc) 5 ((bytesRow key kc).size, (bytesRow key kc).size + 1)) := ⟨_, rfl⟩
  have hbk : Below w0.heap.size w0 wk := by rw [hwk]; exact ((Below.refl w0.heap.size w0).drew).alloc (Nat.le_refl _) _
  have hkc2 : key.size ≤ kc := by rw [hkc]; exact grownCap_leM w0 _ _
  have hhk : wk.heap[w0.heap.size]? = some (.cells (bytesRow key kc) 5 ((bytesRow key kc).size, (bytesRow key kc).size + 1)) := by rw [hwk]; exact heap_alloc_new w0.drew _
  have hbyk : BytesV wk (some ⟨w0.heap.size, 0, none⟩, key.size, kc) (keyL key) := key_bytesV hhk hkc2 (by omega)
  rw [← hwk] at hcv
  have HBK := Lib.hid hbyk
  have HOK := Lib.hid (own_belowM HO0.out hbk)
  clear hkc hhk hkc2 hwk hbyk
  go_wp2_with (first | (at_builtin; refine wpList_append_row rfl (.tmp 19) (.tmp 22) 32 rfl b 5 i0 (.int .u8 0) 1 Try.underlying32 hi hz0 hz1 hz2 rfl _ _ _ rfl HOK.out (some ⟨w0.heap.size, 0, none⟩) key.size kc ((keyL key).map bv) rfl HBK.out.row (fun e => by cases e) (bv_one (keyL key)) (by unfold maxLen; omega) (by omega) (by have := hbk.size; omega) ?_; intro v' w1 hown4 hgrow4 _; obtain ⟨ad1, cap1, rfl, -⟩ := ownsRow_parts hown4; refine Hid.out ?_))
  refine Lib.hid ?_
  obtain ⟨L1, hL1⟩ : ∃ L, L = [k, key.size] ++ (keyL key) := ⟨_, rfl⟩
  have hel : L1.length = 2 + key.size := by rw [hL1, List.length_append]; simp only [List.length_cons, List.length_nil, keyL_len]
  have hl1 : L1.length ≤ 34 := by omega
  have ho : w1.ownsRow b 5 1 (.slice ad1 L1.length cap1) L1.length (L1.map bv) := by rw [hel, hL1, List.map_append]; exact hown4
  have hb : Below b w0 w1 := (hbk.mono hs0).grown hgrow4 (by have := hbk.size; omega) (fun q hq => ownBlock_ge HO0.out q hq)
  rw [← hel]
  clear hown4 hgrow4 hel
  have hB1 := hB0.trans hb
  have hs1 : b ≤ w1.heap.size := Nat.le_trans hs0 hb.size
  have HO1 := Lib.hid ho
  have HL1 := Lib.hid hL1
  obtain ⟨c0, c1, c2, c3, c4, c5, c6, c7, c8⟩ := HC.out w1 hB1
  clear ho hb hL1
  clear hbk hcv
  have KN := refPut_is b b N 4 L1 ad1 cap1 w1 HO1.out (Nat.le_refl b) hs1 (by omega) (by omega) 4 rfl _ rfl
  go_wp2_with fail
  (with_reducible refine KN.mono ?_)
  rintro e w2 ⟨ad2, cap2, rfl, ho, hb, -⟩
  obtain ⟨L2, hL2⟩ : ∃ L, L = L1 ++ numL N 4 := ⟨_, rfl⟩
  rw [← hL2] at ho ⊢
  have hl2 : L2.length ≤ 38 := by rw [hL2]; simp only [List.length_append, numTo_len, numL]; omega
  have hB2 := hB1.trans hb
  have hs2 : b ≤ w2.heap.size := Nat.le_trans hs1 hb.size
  have HO2 := Lib.hid ho
  have HL2 := Lib.hid hL2
  obtain ⟨c0, c1, c2, c3, c4, c5, c6, c7, c8⟩ := HC.out w2 hB2
  clear ho hb hL2 KN
  have KN := refPut_is b b s 4 L2 ad2 cap2 w2 HO2.out (Nat.le_refl b) hs2 (by omega) (by omega) 4 rfl _ rfl
  go_wp2_with fail
  (with_reducible refine KN.mono ?_)
  rintro e w3 ⟨ad3, cap3, rfl, ho, hb, -⟩
  obtain ⟨L3, hL3⟩ : ∃ L, L = L2 ++ numL s 4 := ⟨_, rfl⟩
  rw [← hL3] at ho ⊢
  have hl3 : L3.length ≤ 42 := by rw [hL3]; simp only [List.length_append, numTo_len, numL]; omega
  have hB3 := hB2.trans hb
  have hs3 : b ≤ w3.heap.size := Nat.le_trans hs2 hb.size
  have HO3 := Lib.hid ho
  have HL3 := Lib.hid hL3
  obtain ⟨c0, c1, c2, c3, c4, c5, c6, c7, c8⟩ := HC.out w3 hB3
  clear ho hb hL3 KN
  obtain ⟨dn, hdn⟩ : ∃ n : Nat, n = if d = true then 1 else 0 := ⟨_, rfl⟩
  have hdn1 : dn ≤ 1 := by rw [hdn]; split <;> omega
  have HDN := Lib.hid hdn
  clear hdn
  go_upto_if 37 with fail
  go_cut [5] (fun v wx => v = .int .u8 (dn : Nat) ∧ w3 = wx)
  case first =>
    cases d
    · go_wp2_with fail
      go_meet
      exact ⟨by rw [HDN.out]; rfl, rfl⟩
    · go_wp2_with fail
      go_meet
      exact ⟨by rw [HDN.out]; rfl, rfl⟩
  case rest =>
  obtain ⟨rfl, hw⟩ := hcut
  subst hw
  have hb4 := below_alloc w3 (.cells #[.int .u8 (c : Nat), .int .u8 (t : Nat), .int .u8 (dn : Nat), .int .u8 (sn : Nat)] 5)
  go_wp2_with (first | (at_builtin; refine wpList_append_row rfl (.tmp 38) (.tmp 54) 32 rfl b 5 i0 (.int .u8 0) 1 Try.underlying32 hi hz0 hz1 hz2 rfl _ _ _ rfl (own_belowM HO3.out hb4) (some ⟨w3.heap.size, 0, none⟩) 4 4 ([c, t, dn, sn].map bv) rfl (rowV_four (heap_alloc_new w3 _)) (fun e => by cases e) (bv_one [c, t, dn, sn]) (by unfold maxLen; omega) (by omega) (by have := hb4.size; omega) ?_; intro v' w4 hown4 hgrow4 _; obtain ⟨ad4, cap4, rfl, -⟩ := ownsRow_parts hown4; refine Hid.out ?_))
  refine Lib.hid ?_
  obtain ⟨L4, hL4⟩ : ∃ L, L = L3 ++ [c, t, dn, sn] := ⟨_, rfl⟩
  have hel : L4.length = L3.length + 4 := by rw [hL4, List.length_append]; simp only [List.length_cons, List.length_nil]
  have hl4 : L4.length ≤ 46 := by omega
  have ho : w4.ownsRow b 5 1 (.slice ad4 L4.length cap4) L4.length (L4.map bv) := by rw [hel, hL4, List.map_append]; exact hown4
  have hb : Below b w3 w4 := (hb4.mono hs3).grown hgrow4 (by have := hb4.size; omega) (fun q hq => ownBlock_ge HO3.out q hq)
  rw [← hel]
  clear hown4 hgrow4 hel
  have hB4 := hB3.trans hb
  have hs4 : b ≤ w4.heap.size := Nat.le_trans hs3 hb.size
  have HO4 := Lib.hid ho
  have HL4 := Lib.hid hL4
  obtain ⟨c0, c1, c2, c3, c4, c5, c6, c7, c8⟩ := HC.out w4 hB4
  clear ho hb hL4
  have hrf5 := Below.refl w4.heap.size w4
  go_wp2_with (first | (at_builtin; refine wpList_append_row rfl (.tmp 56) (.tmp 59) 32 rfl b 5 i0 (.int .u8 0) 1 Try.underlying32 hi hz0 hz1 hz2 rfl _ _ _ rfl HO4.out sa sn sc (sum.map bv) rfl (HS.out.below (HB2.out.trans (hB4.mono (Nat.le_of_lt hwb)))).row HS.out.nil (bv_one sum) (by unfold maxLen; omega) (by omega) (by have := hrf5.size; omega) ?_; intro v' w5 hown4 hgrow4 _; obtain ⟨ad5, cap5, rfl, -⟩ := ownsRow_parts hown4; refine Hid.out ?_))
  refine Lib.hid ?_
  obtain ⟨L5, hL5⟩ : ∃ L, L = L4 ++ sum := ⟨_, rfl⟩
  have hel : L5.length = L4.length + sn := by rw [hL5, List.length_append]; simp only [HSL]
  have hl5 : L5.length ≤ 78 := by omega
  have ho : w5.ownsRow b 5 1 (.slice ad5 L5.length cap5) L5.length (L5.map bv) := by rw [hel, hL5, List.map_append]; exact hown4
  have hb : Below b w4 w5 := (hrf5.mono hs4).grown hgrow4 (by have := hrf5.size; omega) (fun q hq => ownBlock_ge HO4.out q hq)
  rw [← hel]
  clear hown4 hgrow4 hel
  have hB5 := hB4.trans hb
  have hs5 : b ≤ w5.heap.size := Nat.le_trans hs4 hb.size
  have HO5 := Lib.hid ho
  have HL5 := Lib.hid hL5
  obtain ⟨c0, c1, c2, c3, c4, c5, c6, c7, c8⟩ := HC.out w5 hB5
  clear ho hb hL5
  have KN := refPut_is b b pn 2 L5 ad5 cap5 w5 HO5.out (Nat.le_refl b) hs5 (by omega) (by omega) 2 rfl _ rfl
  go_wp2_with fail
  (with_reducible refine KN.mono ?_)
  rintro e w6 ⟨ad6, cap6, rfl, ho, hb, -⟩
  obtain ⟨L6, hL6⟩ : ∃ L, L = L5 ++ numL pn 2 := ⟨_, rfl⟩
  rw [← hL6] at ho ⊢
  have hl6 : L6.length ≤ 80 := by rw [hL6]; simp only [List.length_append, numTo_len, numL]; omega
  have hB6 := hB5.trans hb
  have hs6 : b ≤ w6.heap.size := Nat.le_trans hs5 hb.size
  have HO6 := Lib.hid ho
  have HL6 := Lib.hid hL6
  obtain ⟨c0, c1, c2, c3, c4, c5, c6, c7, c8⟩ := HC.out w6 hB6
  clear ho hb hL6 KN
  have hL6 : L6 = headL k key N c s t d sum pn := by
    have q : sum.length = sn := HS.out.length
    have m1 : ∀ x : Nat, x < 256 → numL x 1 = [x] := fun x hx => by rw [numL_one, Nat.mod_eq_of_lt hx]
    unfold headL
    rw [q, HL6.out, HL5.out, HL4.out, HL3.out, HL2.out, HL1.out, m1 key.size (by omega), m1 sn (by omega), show (if d = true then 1 else 0) = dn from HDN.out.symm, m1 dn (by omega), Int.toNat_natCast, Int.toNat_natCast, Int.toNat_natCast, Int.toNat_natCast, Int.toNat_natCast, m1 k (by omega), m1 c (by omega), m1 t (by omega)]
    simp only [List.append_assoc, List.cons_append, List.nil_append]
  have HE6 := Lib.hid (show E = L6 ++ placesL P pn by rw [HE.out, hL6]; rfl)
  clear hL6 HL1 HL2 HL3 HL4 HL5 HL6 HO0 HOK HO1 HO2 HO3 HO4 HO5 HBK
  go_wp2_with fail
  go_loopw [4, 6] (fun va vi wr => ∃ (i : Nat) (M : List Nat) (ad : Option Addr) (cap : Nat), i ≤ pn ∧ vi = .int .i64 (i : Nat) ∧ va = .slice ad M.length cap ∧ M.length ≤ 80 + i * 40 ∧ Hid (M = L6 ++ placesL P i) ∧ Hid (wr.ownsRow b 5 1 (.slice ad M.length cap) M.length (M.map bv)) ∧ Hid (Below b w2' wr)) (fun _ vi _ => (pn - intOf vi).toNat)
  case atStart => exact ⟨0, L6, ad6, cap6, Nat.zero_le _, rfl, rfl, by omega, Lib.hid (List.append_nil _).symm, HO6, Lib.hid hB6⟩
  case round =>
    clear HO6 hB6 c0 c1 c2 c3 c4 c5 c6 c7 c8
    obtain ⟨i, M0, ae, ce, hip, rfl, rfl, hML, HM, HVr, hBr⟩ := hrel
    obtain ⟨c0, c1, c2, c3, c4, c5, c6, c7, c8⟩ := HC.out wr hBr.out
    have hsr : b ≤ wr.heap.size := by have h1 := hBr.out.size; have h2 := HBB.out; omega
    by_cases hlt : i < pn
    · obtain ⟨hb0, hb1, he0, he1, hs0', hs1', hx32⟩ := HPL.out i hlt
      obtain ⟨g, off, rfl, hlg, hat0⟩ := HP.out.row (by omega)
      have hwr : Below w.heap.size w wr := HB2.out.trans (hBr.out.mono (Nat.le_of_lt hwb))
      have hat := (hat0 i hlt).below hlg hwr
      obtain ⟨pl, hpl⟩ : ∃ p, p = P i := ⟨_, rfl⟩
      rw [← hpl] at hat hb0 hb1 he0 he1 hs0' hs1' hx32
      have hatw := hat0 i hlt
      rw [← hpl] at hatw
      have HPI := Lib.hid hpl
      obtain ⟨pb, pe, ps, ⟨xa, xn, xc⟩, pm⟩ := pl
      obtain ⟨z0, z1, z2, z3, -⟩ := hat
      have hxb := hatw.by_
      simp only at z0 z1 z2 z3 hb0 hb1 he0 he1 hs0' hs1' hx32 hxb
      have HXB := Lib.hid hxb
      have hpi : (i : Int) < (pn : Int) := by omega
      clear hat0 hatw hpl hxb
      obtain ⟨q, hq⟩ : ∃ q, q = wr.heap.size := ⟨_, rfl⟩
      obtain ⟨v0, hv0⟩ : ∃ x, x = wr.alloc (.cells #[.int .i64 pb, .int .i64 pe, .int .i64 ps, .slice xa xn xc] PT4) := ⟨_, rfl⟩
      have hbq : Below wr.heap.size wr v0 := by rw [hv0]; exact below_alloc wr _
      have GQ0 := Lib.hid (show v0.heap[q]? = some (.cells #[.int .i64 pb, .int .i64 pe, .int .i64 ps, .slice xa xn xc] PT4 (0, 0)) by rw [hv0, hq]; exact heap_alloc_new wr _)
      have GO0 := Lib.hid (show v0.ownsRow b 5 1 (.slice ae M0.length ce) M0.length (M0.map bv) by rw [hv0]; exact HVr.out.alloc _)
      have gB0 := hBr.out.trans (hbq.mono hsr)
      have gs0 : b ≤ v0.heap.size := Nat.le_trans hsr hbq.size
      obtain ⟨q0, q1, q2, q3⟩ := cells4M GQ0.out
      obtain ⟨ae0, hae⟩ : ∃ a, a = ae := ⟨_, rfl⟩
      obtain ⟨ce0, hce⟩ : ∃ a, a = ce := ⟨_, rfl⟩
      rw [← hae, ← hce] at GO0
      have gl0 : M0.length ≤ 80 + i * 40 := hML
      have HV0 := Lib.hid hv0
      have HQ := Lib.hid hq
      have hi512 : i * 40 ≤ 20480 := by omega
      have hxl : pm.length = xn := HXB.out.length
      clear hbq HVr hv0 hq hML
      subst hae hce
      go_upto_region 17 with fail
      rw [← HV0.out, ← HQ.out]
      clear z0 z1 z2 z3 c0 c1 c2 c3 c4 c5 c6 c7 c8
      have KN := refPut_is b b pb.toNat 2 M0 ae0 ce0 v0 GO0.out (Nat.le_refl b) gs0 (by omega) (by omega) 2 rfl pb (Int.toNat_of_nonneg (by omega))
      go_wp2_with fail
      (with_reducible refine KN.mono ?_)
      rintro e v1 ⟨ae1, ce1, rfl, ho, hb, hk⟩
      obtain ⟨M1, hM1⟩ : ∃ L, L = M0 ++ numL pb.toNat 2 := ⟨_, rfl⟩
      rw [← hM1] at ho ⊢
      have gl1 : M1.length ≤ 80 + i * 40 + 2 := by rw [hM1]; simp only [List.length_append, numTo_len, numL]; omega
      have gB1 := gB0.trans hb
      have gs1 : b ≤ v1.heap.size := Nat.le_trans gs0 hb.size
      have GO1 := Lib.hid ho
      have HM1 := Lib.hid hM1
      have GQ1 := Lib.hid (hk q _ _ _ (by decide) GQ0.out)
      obtain ⟨q0, q1, q2, q3⟩ := cells4M GQ1.out
      clear ho hb hk hM1 KN
      have KN := refPut_is b b pe.toNat 3 M1 ae1 ce1 v1 GO1.out (Nat.le_refl b) gs1 (by omega) (by omega) 3 rfl pe (Int.toNat_of_nonneg (by omega))
      go_wp2_with fail
      (with_reducible refine KN.mono ?_)
      rintro e v2 ⟨ae2, ce2, rfl, ho, hb, hk⟩
      obtain ⟨M2, hM2⟩ : ∃ L, L = M1 ++ numL pe.toNat 3 := ⟨_, rfl⟩
      rw [← hM2] at ho ⊢
      have gl2 : M2.length ≤ 80 + i * 40 + 5 := by rw [hM2]; simp only [List.length_append, numTo_len, numL]; omega
      have gB2 := gB1.trans hb
      have gs2 : b ≤ v2.heap.size := Nat.le_trans gs1 hb.size
      have GO2 := Lib.hid ho
      have HM2 := Lib.hid hM2
      have GQ2 := Lib.hid (hk q _ _ _ (by decide) GQ1.out)
      obtain ⟨q0, q1, q2, q3⟩ := cells4M GQ2.out
      clear ho hb hk hM2 KN
      have KN := refPut_is b b ps.toNat 2 M2 ae2 ce2 v2 GO2.out (Nat.le_refl b) gs2 (by omega) (by omega) 2 rfl ps (Int.toNat_of_nonneg (by omega))
      go_wp2_with fail
      (with_reducible refine KN.mono ?_)
      rintro e v3 ⟨ae3, ce3, rfl, ho, hb, hk⟩
      obtain ⟨M3, hM3⟩ : ∃ L, L = M2 ++ numL ps.toNat 2 := ⟨_, rfl⟩
      rw [← hM3] at ho ⊢
      have gl3 : M3.length ≤ 80 + i * 40 + 7 := by rw [hM3]; simp only [List.length_append, numTo_len, numL]; omega
      have gB3 := gB2.trans hb
      have gs3 : b ≤ v3.heap.size := Nat.le_trans gs2 hb.size
      have GO3 := Lib.hid ho
      have HM3 := Lib.hid hM3
      have GQ3 := Lib.hid (hk q _ _ _ (by decide) GQ2.out)
      obtain ⟨q0, q1, q2, q3⟩ := cells4M GQ3.out
      clear ho hb hk hM3 KN
      have hb3 := below_alloc v3 (.cells #[.int .u8 (xn : Nat)] 5)
      go_wp2_with (first | (at_builtin; refine wpList_append_row rfl (.tmp 90) (.tmp 95) 32 rfl b 5 i0 (.int .u8 0) 1 Try.underlying32 hi hz0 hz1 hz2 rfl _ _ _ rfl ((own_belowM GO3.out hb3)) (some ⟨v3.heap.size, 0, none⟩) 1 1 ([xn].map bv) rfl (rowV_oneM (heap_alloc_new v3 _)) (fun e => by cases e) (bv_one [xn]) (by unfold maxLen; omega) (by omega) (by have := hb3.size; omega) ?_; intro v' v4 hown4 hgrow4 _; obtain ⟨ae4, ce4, rfl, -⟩ := ownsRow_parts hown4; refine Hid.out ?_))
      refine Lib.hid ?_
      obtain ⟨M4, hM4⟩ : ∃ L, L = M3 ++ [xn] := ⟨_, rfl⟩
      have hel : M4.length = M3.length + 1 := by rw [hM4, List.length_append]; simp only [List.length_cons, List.length_nil]
      have gl4 : M4.length ≤ 80 + i * 40 + 8 := by omega
      have ho : v4.ownsRow b 5 1 (.slice ae4 M4.length ce4) M4.length (M4.map bv) := by rw [hel, hM4, List.map_append]; exact hown4
      have hb : Below b v3 v4 := (hb3.mono gs3).grown hgrow4 (by have := hb3.size; omega) (fun q hq => ownBlock_ge GO3.out q hq)
      have hk : KeepT v3 v4 := (KeepT.below hb3).trans (KeepT.grown ((own_belowM GO3.out hb3)) hgrow4)
      rw [← hel]
      clear hown4 hgrow4 hel
      have gB4 := gB3.trans hb
      have gs4 : b ≤ v4.heap.size := Nat.le_trans gs3 hb.size
      have GO4 := Lib.hid ho
      have HM4 := Lib.hid hM4
      have GQ4 := Lib.hid (hk q _ _ _ (by decide) GQ3.out)
      obtain ⟨q0, q1, q2, q3⟩ := cells4M GQ4.out
      clear ho hb hk hM4
      have hrf4 := Below.refl v4.heap.size v4
      go_wp2_with (first | (at_builtin; refine wpList_append_row rfl (.tmp 97) (.tmp 99) 32 rfl b 5 i0 (.int .u8 0) 1 Try.underlying32 hi hz0 hz1 hz2 rfl _ _ _ rfl (GO4.out) xa xn xc (pm.map bv) rfl (HXB.out.below (HB2.out.trans (gB4.mono (Nat.le_of_lt hwb)))).row HXB.out.nil (bv_one pm) (by unfold maxLen; omega) (by omega) (by have := hrf4.size; omega) ?_; intro v' v5 hown4 hgrow4 _; obtain ⟨ae5, ce5, rfl, -⟩ := ownsRow_parts hown4; refine Hid.out ?_))
      refine Lib.hid ?_
      obtain ⟨M5, hM5⟩ : ∃ L, L = M4 ++ pm := ⟨_, rfl⟩
      have hel : M5.length = M4.length + xn := by rw [hM5, List.length_append]; simp only [hxl]
      have gl5 : M5.length ≤ 80 + i * 40 + 40 := by omega
      have ho : v5.ownsRow b 5 1 (.slice ae5 M5.length ce5) M5.length (M5.map bv) := by rw [hel, hM5, List.map_append]; exact hown4
      have hb : Below b v4 v5 := (hrf4.mono gs4).grown hgrow4 (by have := hrf4.size; omega) (fun q hq => ownBlock_ge GO4.out q hq)
      have hk : KeepT v4 v5 := (KeepT.below hrf4).trans (KeepT.grown (GO4.out) hgrow4)
      rw [← hel]
      clear hown4 hgrow4 hel
      have gB5 := gB4.trans hb
      have gs5 : b ≤ v5.heap.size := Nat.le_trans gs4 hb.size
      have GO5 := Lib.hid ho
      have HM5 := Lib.hid hM5
      have GQ5 := Lib.hid (hk q _ _ _ (by decide) GQ4.out)
      obtain ⟨q0, q1, q2, q3⟩ := cells4M GQ5.out
      clear ho hb hk hM5
      have HEND := Lib.hid (show M5 = L6 ++ placesL P (i + 1) by
        rw [HM5.out, HM4.out, HM3.out, HM2.out, HM1.out, HM.out]
        show _ = L6 ++ (placesL P i ++ placeL (P i))
        rw [← HPI.out]
        unfold placeL
        simp only [hxl, numL_one, Nat.mod_eq_of_lt (show xn < 256 by omega), List.append_assoc])
      have hML5 : M5.length ≤ 80 + (i + 1) * 40 := by omega
      have HB5 := Lib.hid gB5
      clear q0 q1 q2 q3 hxl gB5
      go_wp2
      go_roundw
      case rel => exact ⟨i + 1, _, ae5, ce5, by omega, by go_num, rfl, hML5, HEND, GO5, HB5⟩
      case measure => simp [intOf]; omega
    · obtain rfl : i = pn := by omega
      go_wp2
      go_ret2
      have hME : M0 = E := HM.out.trans HE6.out.symm
      rw [← hME]
      exact ⟨ae, ce, rfl, ownsRow_base HVr.out (by omega), HB2.out.trans (hBr.out.mono (Nat.le_of_lt hwb))⟩
end Go.Proofs.Ytikjcmijmhmilaa
