/-
  msg's laws: MsgOnly's walk.
-/
import Derived.Test.YtopnjjehefaghaaDoorMMhF
namespace Go.Proofs.YtopnjjehefaghaaDoor
open Go.RowKit

theorem own_setM {w : World} {B : Nat} {T : TypeId} {g n cap : Nat} {xs : List Value} (h : w.ownsRow B T 1 (.slice (some ⟨g, 0, none⟩) n cap) n xs) (i : Nat) (v : Value) :
    (w.setCell ⟨g, i, none⟩ v).ownsRow B T 1 (.slice (some ⟨g, 0, none⟩) n cap) n (xs.set i v) := (h.stored i v).1

theorem xor_ltM {x t : Nat} (hx : x < 256) (ht : t < 256) : x ^^^ t < 256 := Nat.xor_lt_two_pow (n := 8) hx ht
theorem xor_neM {x t : Nat} (ht : t ≠ 0) : x ^^^ t ≠ x := fun h => ht (by
  have := congrArg (fun y => x ^^^ y) h
  simp only [← Nat.xor_assoc, Nat.xor_self, Nat.zero_xor] at this
  exact this)
set_option maxRecDepth 100000 in
set_option maxHeartbeats 16000000 in
theorem msgOnly_walk (ad : Option Addr) (n c : Nat) (l : List Nat) (at_ turn : Int) (w : World) (hN : NmV w) (h : BytesV w (ad, n, c) l) (_s : n ≤ 140737488351232) (_wf : (Lit.int .i64 at_).wf = true) (wt : (Lit.int .u8 turn).wf = true) :
    Calls Tryd.prog 7 #[.slice ad n c, .int .i64 at_, .int .u8 turn] w fun e w' => e = .returned (.bool true) ∧ Below w.heap.size w w' := by
  have KA := alive11_any w hN
  have hln : l.length = n := h.length
  have HL := Lib.hid hln
  have HH := Lib.hid h
  obtain ⟨t, rfl⟩ : ∃ t : Nat, turn = (t : Int) := ⟨turn.toNat, by have := wf_u8 wt; omega⟩
  have ht8 : t < 256 := by have := wf_u8 wt; omega
  clear h hln hN wt
  go_enter Tryd.func7, Tryd.ntmps7
  go_wp2_with fail
  (with_reducible refine KA.mono ?_)
  rintro e w2 ⟨rfl, b2⟩
  have B2 := Lib.hid b2
  clear KA b2
  by_cases hp7 : (70000 : Int) < (n : Int)
  · go_wp2
    go_ret
    exact ⟨rfl, B2.out⟩
  have KCB := copyBytes_any ad n c l w2 (HH.out.below B2.out)
  go_wp2_with fail
  (with_reducible refine KCB.mono ?_)
  rintro e w3 ⟨a3, c3, rfl, o3, b3⟩
  have hb3 := ownBytes o3 HH.out.bytes (by rw [HL.out]; omega)
  have B3 := Lib.hid (B2.out.trans (b3.mono B2.out.size))
  have KD := decodeM_any a3 l.length c3 l w3 hb3
  have hdl := dec_len l
  obtain ⟨⟨M, E⟩, hD⟩ : ∃ p, p = decM l := ⟨_, rfl⟩
  rw [← hD] at KD hdl
  have HD := Lib.hid hD
  have HDL := Lib.hid hdl
  unfold GivesD at KD
  clear KCB o3 b3 hb3 hD hdl
  go_wp2_with fail
  (with_reducible refine KD.mono ?_)
  rintro e w4 ⟨⟨xa, xn, xc⟩, sa, sc, ia, ic, rfl, ow4, b4⟩
  obtain ⟨q, hq⟩ : ∃ q, q = w4.heap.size := ⟨_, rfl⟩
  obtain ⟨w5, hw5⟩ : ∃ x, x = w4.alloc (.cells (XC M xa xn xc sa sc ia ic) MMT) := ⟨_, rfl⟩
  have b5 : Below w4.heap.size w4 w5 := by rw [hw5]; exact below_alloc w4 _
  have k5 : w5.heap[q]? = some (.cells (XC M xa xn xc sa sc ia ic) MMT (0, 0)) := by rw [hw5, hq]; exact heap_alloc_new w4 _
  have B4 := B3.out.trans (b4.mono B3.out.size)
  have B5 := Lib.hid (B4.trans (b5.mono B4.size))
  have V5 := Lib.hid (ow4.v.below b5)
  have K5 := Lib.hid k5
  have HW5 := Lib.hid hw5
  have HQ := Lib.hid hq
  clear b4 ow4 B4 b5 k5 hq hw5 KD
  go_upto_region 6 with fail
  rw [← HW5.out, ← HQ.out]
  obtain ⟨⟨c0, c1, c2, c3', c4, c5, c6⟩, c7, c8, c9, c10, c11, c12, c13⟩ := cells14 K5.out
  by_cases hE0 : E = 0
  · subst hE0
    have hok := dec_ok (l := l) (by rw [← HD.out])
    rw [← HD.out] at hok
    simp only at hok
    have HOK := Lib.hid hok
    have KC := copyMsg_any M (xa, xn, xc) sa sc ia ic w5 V5.out (by have := HDL.out.1; omega) (by have := HDL.out.2; omega)
    clear hok
    go_wp2_with fail
    (with_reducible refine KC.mono ?_)
    rintro e w6 ⟨⟨ya, yn, yc⟩, ta, tc, ja, jc, rfl, v6, b6⟩
    have K6 := Lib.hid ((b6.block q (Array.getElem?_eq_some_iff.1 K5.out).1).trans K5.out)
    have B6 := Lib.hid (B5.out.trans (b6.mono B5.out.size))
    have V6 := Lib.hid (V5.out.below b6)
    have KX := encode_anyM M (ya, yn, yc) ta tc ja jc w6 v6
    unfold GivesM at KX
    have hE : encM M = (l, 0) := Prod.ext HOK.out.2 HOK.out.1
    rw [hE] at KX
    clear KC v6 b6 hE c0 c1 c2 c3' c4 c5 c6 c7 c8 c9 c10 c11 c12 c13
    go_wp2_with fail
    (with_reducible refine KX.mono ?_)
    rintro e w7 ⟨ad7, cap7, rfl, o7, y7, b7⟩
    have K7 := Lib.hid ((b7.block q (Array.getElem?_eq_some_iff.1 K6.out).1).trans K6.out)
    have B7 := Lib.hid (B6.out.trans (b7.mono B6.out.size))
    have V7 := Lib.hid (V6.out.below b7)
    have hby7 := ownBytes o7 y7 (by rw [HL.out]; omega)
    rw [HL.out] at o7 hby7 ⊢
    have KB := sameBytes_any ad7 n cap7 l ad n c l w7 hby7 (HH.out.below B7.out)
    rw [decide_eq_true rfl] at KB
    have HO7 := Lib.hid (ownsRow_base o7 (Nat.le_refl _))
    have hq6 : q < w6.heap.size := (Array.getElem?_eq_some_iff.1 K6.out).1
    have hw6 : w.heap.size ≤ w6.heap.size := B6.out.size
    have B67 := Lib.hid b7
    clear KX o7 y7 b7 hby7
    go_wp2_with fail
    (with_reducible refine KB.mono ?_)
    rintro e w8 ⟨rfl, b8⟩
    have K8 := Lib.hid ((b8.block q (Array.getElem?_eq_some_iff.1 K7.out).1).trans K7.out)
    have B8 := Lib.hid (B7.out.trans (b8.mono B7.out.size))
    have V8 := Lib.hid (V7.out.below b8)
    have HO8 := Lib.hid (own_belowM HO7.out b8)
    have B68 := Lib.hid (B67.out.trans (b8.mono B67.out.size))
    clear KB b8 B67
    go_upto_region 11 with fail
    by_cases g1 : at_ < 0
    · go_wp2
      go_ret
      exact ⟨rfl, B8.out⟩
    by_cases g2 : (n : Int) ≤ at_
    · go_wp2
      go_ret
      exact ⟨rfl, B8.out⟩
    by_cases g3 : t = 0
    · subst g3
      have hz : (((0 : Nat) : Int) == 0) = true := rfl
      go_wp2
      go_ret
      exact ⟨rfl, B8.out⟩
    have hz : ((t : Int) == 0) = false := beq_eq_false_iff_ne.2 (by omega)
    go_upto_region 13 with fail
    clear hz
    obtain ⟨k, rfl⟩ : ∃ k : Nat, at_ = (k : Int) := ⟨at_.toNat, by omega⟩
    have hkn : k < n := by omega
    have hk0 : (0 : Int) ≤ (k : Int) := by omega
    have hki : (k : Int) < (n : Int) := by omega
    obtain ⟨ad', cap', e', hcase, hnc, hmx, hrow⟩ := ownsRow_parts HO8.out
    injection e' with e1 e2 e3
    subst e1 e3
    clear e2
    rcases hcase with ⟨-, h0, -⟩ | ⟨g, rfl, hg1, hg2⟩
    · omega
    obtain ⟨g', o', eg, hcl⟩ := hrow.2 (by omega)
    injection eg with eg
    injection eg with eg1 eg2
    subst eg1 eg2
    have hx := hcl k hkn
    rw [bv_getD (by rw [HL.out]; exact hkn), Nat.zero_add] at hx
    obtain ⟨x, hxx⟩ : ∃ x, x = l.getD k 0 := ⟨_, rfl⟩
    rw [← hxx] at hx
    have hx8 : x < 256 := by rw [hxx]; exact HH.out.bytes.getD k
    have hq2 := u8_xor_nat x t hx8 ht8
    obtain ⟨y, hy⟩ : ∃ y, y = x ^^^ t := ⟨_, rfl⟩
    rw [← hy] at hq2
    have hy8 : y < 256 := by rw [hy]; exact xor_ltM hx8 ht8
    have hne : l.set k y ≠ l := fun e => by
      have h1 : (l.set k y).getD k 0 = l.getD k 0 := by rw [e]
      rw [List.getD_eq_getElem?_getD, List.getElem?_set_self (by rw [HL.out]; exact hkn), ← hxx, hy] at h1
      exact xor_neM (fun h => g3 h) h1
    have hfz : w8.frozen? ⟨g, k, none⟩ = false := by
      rcases HO8.out.2 with ⟨e, -⟩ | ⟨g2, cp, cur, e, -, hh, -⟩
      · cases e
      · injection e with e _ _
        injection e with e
        injection e with e _
        subst e
        exact frozen_of_row _ _ _ _ _ hh
    have HNE := Lib.hid hne
    have hset := own_setM HO8.out k (bv y)
    rw [← List.map_set] at hset
    obtain ⟨C, hC⟩ : ∃ C, C = l.set k y := ⟨_, rfl⟩
    rw [← hC] at hset
    have HC := Lib.hid hC
    have hCl : C.length = n := by rw [hC, List.length_set, HL.out]
    have hCb : Bytes C := by
      rw [hC]
      intro z hz
      rcases List.mem_or_eq_of_mem_set hz with h1 | h1
      · exact HH.out.bytes z h1
      · rw [h1]; exact hy8
    have hgr : w8.grownBy (w8.setCell ⟨g, k, none⟩ (bv y)) (some g) := grownBy_setCellM w8 ⟨g, k, none⟩ (bv y)
    have hgq : g ≠ q := fun e => by
      rcases HO8.out.2 with ⟨e2, -⟩ | ⟨g2, cp, cur, e2, -, hh, -⟩
      · cases e2
      · injection e2 with e2 _ _
        injection e2 with e2
        injection e2 with e2 _
        subst e2 e
        rw [K8.out] at hh
        injection hh with hh
        injection hh with _ hh _
        exact absurd hh (by decide)
    have HS := Lib.hid (And.intro hset hgr)
    have HCL := Lib.hid hCl
    have HCB := Lib.hid hCb
    have HMK := Lib.hid (fun h => hgq h)
    have HG6 := Lib.hid hg1
    clear hrow hcl hxx hy hne hC hCl hCb hset hgr hgq
    go_upto_region 14 with fail
    clear hfz hx hq2
    refine (?_ : ∀ W : World, Hid (W.ownsRow w6.heap.size 5 1 (.slice (some ⟨g, 0, none⟩) n cap7) n (C.map bv) ∧ w8.grownBy W (some g)) → Code.wp Tryd.prog _ _ _ W) _ HS
    clear HS
    intro W HS
    have KQ := (HS.out.2.block q (Array.getElem?_eq_some_iff.1 K8.out).1 (fun e => by injection e with e; exact HMK.out e.symm)).trans K8.out
    have BW : Below w.heap.size w W := B8.out.grown HS.out.2 B8.out.size (fun i hi => by injection hi with hi; omega)
    have B6W : Below w6.heap.size w6 W := B68.out.grown HS.out.2 B68.out.size (fun i hi => by injection hi with hi; have := HG6.out; omega)
    have VW := Lib.hid (V6.out.below B6W)
    have hbC : BytesV W (some ⟨g, 0, none⟩, n, cap7) C := by
      have := ownBytes (L := C) (by rw [HCL.out]; exact HS.out.1) HCB.out (by rw [HCL.out]; omega)
      rw [HCL.out] at this
      exact this
    have KD := decodeM_any (some ⟨g, 0, none⟩) n cap7 C W hbC
    obtain ⟨⟨N, F⟩, hN⟩ : ∃ p, p = decM C := ⟨_, rfl⟩
    rw [← hN] at KD
    have HNF := Lib.hid hN
    have KQH := Lib.hid KQ
    have BWH := Lib.hid BW
    unfold GivesD at KD
    clear KQ BW B6W hbC hN HS HMK
    go_wp2_with fail
    (with_reducible refine KD.mono ?_)
    rintro e w10 ⟨⟨za, zn, zc⟩, ua, uc, va, vc, rfl, ow10, b10⟩
    obtain ⟨r, hr⟩ : ∃ r, r = w10.heap.size := ⟨_, rfl⟩
    obtain ⟨w11, hw11⟩ : ∃ x, x = w10.alloc (.cells (XC N za zn zc ua uc va vc) MMT) := ⟨_, rfl⟩
    have b11 : Below w10.heap.size w10 w11 := by rw [hw11]; exact below_alloc w10 _
    have j11 : w11.heap[r]? = some (.cells (XC N za zn zc ua uc va vc) MMT (0, 0)) := by rw [hw11, hr]; exact heap_alloc_new w10 _
    have bWb := b10.trans (b11.mono b10.size)
    have B11 := Lib.hid (BWH.out.trans (bWb.mono BWH.out.size))
    have VN := Lib.hid (ow10.v.below b11)
    have VM := Lib.hid (VW.out.below bWb)
    have k11 := (bWb.block q (Array.getElem?_eq_some_iff.1 KQH.out).1).trans KQH.out
    have HW11 := Lib.hid hw11
    have HR := Lib.hid hr
    clear KD ow10 b10 bWb b11 hw11 hr
    go_upto_region 15 with fail
    rw [← HW11.out, ← HR.out]
    by_cases hF0 : F = 0
    · subst hF0
      have hok := dec_ok (l := C) (by rw [← HNF.out])
      rw [← HNF.out] at hok
      simp only at hok
      have hNM : ¬ N = M := fun e => by
        rw [e] at hok
        have h1 := hok.2
        rw [HOK.out.2] at h1
        exact HNE.out (HC.out.symm.trans h1.symm)
      have hcl2 := dec_len C
      rw [← HNF.out] at hcl2
      have KS := sameMsg_any N M (za, zn, zc) ua uc va vc (xa, xn, xc) sa sc ia ic w11 VN.out VM.out (by have := hcl2.1; simp only at this; omega) (by have := hcl2.2; simp only at this; omega)
      rw [decide_eq_false hNM] at KS
      clear hok hNM hcl2
      obtain ⟨⟨c0, c1, c2, c3, c4, c5, c6⟩, c7, c8, c9, c10, c11, c12, c13⟩ := cells14 k11
      obtain ⟨⟨d0, d1, d2, d3, d4, d5, d6⟩, d7, d8, d9, d10, d11, d12, d13⟩ := cells14 j11
      go_wp2_with fail
      (with_reducible refine KS.mono ?_)
      rintro e w12 ⟨rfl, b12⟩
      have B12 := Lib.hid (B11.out.trans (b12.mono B11.out.size))
      clear KS b12 c0 c1 c2 c3 c4 c5 c6 c7 c8 c9 c10 c11 c12 c13 d0 d1 d2 d3 d4 d5 d6 d7 d8 d9 d10 d11 d12 d13
      go_wp2
      go_ret
      exact ⟨rfl, B12.out⟩
    · go_wp2
      go_ret
      exact ⟨rfl, B11.out⟩
  · have hz := dec_code l
    rw [← HD.out] at hz
    simp only at hz
    have hz1 : E = 110 := by rcases hz with h | h; exact absurd h hE0; exact h.1
    have hz2 : M = zeroM := by rcases hz with h | h; exact absurd h hE0; exact h.2
    subst hz1 hz2
    clear hE0 hz c1 c2 c3' c4 c5 c6 c7 c8 c9 c10 c11 c12 c13
    have c0 : w5.cell? ⟨q, 0, none⟩ = some (.int .i64 0) := c0
    go_wp2
    go_ret
    exact ⟨rfl, B5.out⟩
end Go.Proofs.YtopnjjehefaghaaDoor
