/-
  msg's laws: MsgDecodes' walk.
-/
import Derived.Test.YtopnjjehefaghaaDoorMBase
import Derived.Test.YtopnjjehefaghaaDoorMMhD
import Derived.Test.YtopnjjehefaghaaDoorMMhE
namespace Go.Proofs.YtopnjjehefaghaaDoor
open Go.RowKit

theorem dec_len (l : List Nat) : (decM l).1.sy.length ≤ 512 ∧ (decM l).1.it.length ≤ 100 := by
  rcases dec_code l with h | ⟨-, h⟩
  · have := (enc_ok (dec_ok h).1).1
    exact ⟨this.sn, this.inn⟩
  · rw [h]; exact ⟨Nat.zero_le _, Nat.zero_le _⟩
theorem spareB_takeF (l : List Nat) : (spareB l).take l.length = l := by
  unfold spareB
  rw [List.take_append_of_le_length (Nat.le_refl _), List.take_of_length_le (Nat.le_refl _)]
abbrev XC (M : MsR) (xa : Option Addr) (xn xc : Nat) (sa : Option Addr) (sc : Nat) (ia : Option Addr) (ic : Nat) : Array Value := #[.int .i64 M.k, .int .i64 M.f, .int .i64 M.t, .int .i64 M.op, .int .i64 M.cd, .string M.key, .int .i64 M.m.N, .int .i64 M.m.c, .int .i64 M.m.s, .int .i64 M.m.t, .bool M.m.d, .slice xa xn xc, .slice sa M.sy.length sc, .slice ia M.it.length ic]
set_option maxRecDepth 100000 in
set_option maxHeartbeats 8000000 in
theorem msgDecodes_walk (ad : Option Addr) (n c : Nat) (l : List Nat) (w : World) (hN : NmV w) (h : BytesV w (ad, n, c) l) (_s : n ≤ 140737488351232) :
    Calls Tryd.prog 4 #[.slice ad n c] w fun e w' => e = .returned (.bool true) ∧ Below w.heap.size w w' := by
  have KA := alive11_any w hN
  have hln : l.length = n := h.length
  have HL := Lib.hid hln
  have HH := Lib.hid h
  clear h hln hN
  go_enter Tryd.func4, Tryd.ntmps4
  go_wp2_with fail
  (with_reducible refine KA.mono ?_)
  rintro e w2 ⟨rfl, b2⟩
  have B2 := Lib.hid b2
  clear KA b2
  by_cases hp7 : (70000 : Int) < (n : Int)
  · go_wp2
    go_ret
    exact ⟨rfl, B2.out⟩
  have KS := spare_any ad n c l w2 (HH.out.below B2.out) (by omega)
  go_wp2_with fail
  (with_reducible refine KS.mono ?_)
  rintro e w3 ⟨a3, c3, rfl, o3, b3⟩
  have hsl : (spareB l).length = n + 8 := by rw [spareB_length, HL.out]
  have hS : BytesV w3 (a3, (spareB l).length, c3) (spareB l) := bytesV_own (x := (a3, (spareB l).length, c3)) o3 rfl (spareB_bytes HH.out.bytes) (by omega)
  have hT : BytesV w3 (a3, n, c3) l := by
    have := bytesV_takeM (m := n) hS (by omega)
    have e : (spareB l).take n = l := by have := spareB_takeF l; rwa [HL.out] at this
    rwa [e] at this
  have hnc : n ≤ c3 := hT.cap
  have hnc2 : (n : Int) ≤ (c3 : Int) := by omega
  obtain ⟨Sp, hSp⟩ : ∃ S, S = spareB l := ⟨_, rfl⟩
  rw [← hSp] at hS hsl ⊢
  obtain ⟨sn, hsn⟩ : ∃ n, n = Sp.length := ⟨_, rfl⟩
  rw [← hsn] at hS ⊢
  have HSP := Lib.hid hSp
  have HSN := Lib.hid hsn
  have HSL := Lib.hid hsl
  have HS := Lib.hid hS
  have B3 := Lib.hid (B2.out.trans (b3.mono B2.out.size))
  have KD := decodeM_any a3 n c3 l w3 hT
  have hdl := dec_len l
  obtain ⟨⟨M, E⟩, hD⟩ : ∃ p, p = decM l := ⟨_, rfl⟩
  rw [← hD] at KD hdl
  have HD := Lib.hid hD
  have HDL := Lib.hid hdl
  unfold GivesD at KD
  clear KS o3 b3 hS hT hsl hsn hSp hD hdl
  go_wp2_with fail
  (with_reducible refine KD.mono ?_)
  rintro e w4 ⟨⟨xa, xn, xc⟩, sa, sc, ia, ic, rfl, ow4, b4⟩
  obtain ⟨q, hq⟩ : ∃ q, q = w4.heap.size := ⟨_, rfl⟩
  obtain ⟨w5, hw5⟩ : ∃ x, x = w4.alloc (.cells (XC M xa xn xc sa sc ia ic) MMT) := ⟨_, rfl⟩
  have b5 : Below w4.heap.size w4 w5 := by rw [hw5]; exact below_alloc w4 _
  have k5 : w5.heap[q]? = some (.cells (XC M xa xn xc sa sc ia ic) MMT (0, 0)) := by rw [hw5, hq]; exact heap_alloc_new w4 _
  have B4 := B3.out.trans (b4.mono B3.out.size)
  have B5 := Lib.hid (B4.trans (b5.mono B4.size))
  have V5 := Lib.hid (ow4.v.below b5)
  have HS5 := Lib.hid ((HS.out.below b4).below b5)
  have K5 := Lib.hid k5
  have HW5 := Lib.hid hw5
  have HQ := Lib.hid hq
  clear b4 ow4 B4 b5 k5 hq hw5 KD
  go_upto_region 7 with fail
  rw [← HW5.out, ← HQ.out]
  have KD := rdecode_any ad n c l w5 (HH.out.below B5.out)
  rw [← HD.out] at KD
  unfold GivesD at KD
  go_wp2_with fail
  (with_reducible refine KD.mono ?_)
  rintro e w6 ⟨⟨ya, yn, yc⟩, ta, tc, ja, jc, rfl, ow6, b6⟩
  obtain ⟨p, hp⟩ : ∃ q, q = w6.heap.size := ⟨_, rfl⟩
  obtain ⟨w7, hw7⟩ : ∃ x, x = w6.alloc (.cells (XC M ya yn yc ta tc ja jc) MMT) := ⟨_, rfl⟩
  have b7 : Below w6.heap.size w6 w7 := by rw [hw7]; exact below_alloc w6 _
  have j7 : w7.heap[p]? = some (.cells (XC M ya yn yc ta tc ja jc) MMT (0, 0)) := by rw [hw7, hp]; exact heap_alloc_new w6 _
  have k6 := (b6.block q (Array.getElem?_eq_some_iff.1 K5.out).1).trans K5.out
  have k7 := (b7.block q (Array.getElem?_eq_some_iff.1 k6).1).trans k6
  have B6 := B5.out.trans (b6.mono B5.out.size)
  have B7 := Lib.hid (B6.trans (b7.mono B6.size))
  have V7 := Lib.hid ((V5.out.below b6).below b7)
  have U7 := Lib.hid (ow6.v.below b7)
  have HS7 := Lib.hid ((HS5.out.below b6).below b7)
  have K7 := Lib.hid k7
  have J7 := Lib.hid j7
  have HW7 := Lib.hid hw7
  have HP := Lib.hid hp
  clear b6 ow6 B6 b7 j7 k6 k7 hp hw7 KD
  go_upto_region 8 with fail
  rw [← HW7.out, ← HP.out]
  have KX := sameMsg_any M M (xa, xn, xc) sa sc ia ic (ya, yn, yc) ta tc ja jc w7 V7.out U7.out (by have := HDL.out.1; omega) (by have := HDL.out.2; omega)
  rw [decide_eq_true rfl] at KX
  obtain ⟨⟨c0, c1, c2, c3', c4, c5, c6⟩, c7, c8, c9, c10, c11, c12, c13⟩ := cells14 K7.out
  obtain ⟨⟨d0, d1, d2, d3, d4, d5, d6⟩, d7, d8, d9, d10, d11, d12, d13⟩ := cells14 J7.out
  have hEE : (E == E) = true := beq_self_eq_true E
  go_wp2_with fail
  (with_reducible refine KX.mono ?_)
  rintro e w8 ⟨rfl, b8⟩
  have B8 := Lib.hid (B7.out.trans (b8.mono B7.out.size))
  have HS8 := Lib.hid (HS7.out.below b8)
  clear KX b8 c0 c1 c2 c3' c4 c5 c6 c7 c8 c9 c10 c11 c12 c13 d0 d1 d2 d3 d4 d5 d6 d7 d8 d9 d10 d11 d12 d13
  have KS := spare_any ad n c l w8 (HH.out.below B8.out) (by omega)
  rw [← HSP.out, ] at KS
  go_wp2_with fail
  (with_reducible refine KS.mono ?_)
  rintro e w9 ⟨a9, c9, rfl, o9, b9⟩
  have hS9 : BytesV w9 (a9, Sp.length, c9) Sp := bytesV_own (x := (a9, Sp.length, c9)) o9 rfl (by rw [HSP.out]; exact spareB_bytes HH.out.bytes) (by have := HSL.out; omega)
  rw [← HSN.out] at hS9 ⊢
  have KB := sameBytes_any a3 sn c3 Sp a9 sn c9 Sp w9 (HS8.out.below b9) hS9
  rw [decide_eq_true rfl] at KB
  have B9 := Lib.hid (B8.out.trans (b9.mono B8.out.size))
  clear KS o9 b9 hS9
  go_wp2_with fail
  (with_reducible refine KB.mono ?_)
  rintro e w10 ⟨rfl, b10⟩
  have B10 := Lib.hid (B9.out.trans (b10.mono B9.out.size))
  clear KB b10
  go_wp2
  go_ret
  exact ⟨rfl, B10.out⟩
end Go.Proofs.YtopnjjehefaghaaDoor
