/-
  msg's laws: MsgEncodes' walk.
-/
import Derived.Test.YtopnjjehefaghaaDoorMCh3
import Derived.Test.YtopnjjehefaghaaDoorMMgR
namespace Go.Proofs.YtopnjjehefaghaaDoor
open Go.RowKit

set_option maxRecDepth 100000 in
set_option maxHeartbeats 16000000 in
theorem msgEncodes_walk (M : MsR) (xa : Option Addr) (xn xc : Nat) (sa : Option Addr) (sc : Nat) (ia : Option Addr) (ic : Nat) (w : World) (hN : NmV w) (hM : MsV w M (xa, xn, xc) sa ia) :
    Calls Tryd.prog 3 #[.agg (MsC M (xa, xn, xc) sa sc ia ic)] w fun e w' => e = .returned (.bool true) ∧ Below w.heap.size w w' := by
  have KG := fun w => great_any11 M (xa, xn, xc) sa sc ia ic w
  obtain ⟨GB, hGB⟩ : ∃ g, g = decide (600 < M.sy.length ∨ 200 < M.it.length) := ⟨_, rfl⟩
  rw [← hGB] at KG
  have HGB := Lib.hid hGB
  have HM := Lib.hid hM
  obtain ⟨b, hb⟩ : ∃ b, b = w.heap.size := ⟨_, rfl⟩
  obtain ⟨w1, hw1⟩ : ∃ x, x = w.alloc (.cells #[.int .i64 M.k, .int .i64 M.f, .int .i64 M.t, .int .i64 M.op, .int .i64 M.cd, .string M.key, .int .i64 M.m.N, .int .i64 M.m.c, .int .i64 M.m.s, .int .i64 M.m.t, .bool M.m.d, .slice xa xn xc, .slice sa M.sy.length sc, .slice ia M.it.length ic] MMT) := ⟨_, rfl⟩
  have k1 : w1.heap[b]? = some (.cells #[.int .i64 M.k, .int .i64 M.f, .int .i64 M.t, .int .i64 M.op, .int .i64 M.cd, .string M.key, .int .i64 M.m.N, .int .i64 M.m.c, .int .i64 M.m.s, .int .i64 M.m.t, .bool M.m.d, .slice xa xn xc, .slice sa M.sy.length sc, .slice ia M.it.length ic] MMT (0, 0)) := by rw [hw1, hb]; exact heap_alloc_new w _
  have b1 : Below w.heap.size w w1 := by rw [hw1]; exact below_alloc w _
  have HW1 := Lib.hid hw1
  have HBB := Lib.hid hb
  have K1 := Lib.hid k1
  have B1 := Lib.hid b1
  have KA := alive11_any w1 (hN.below b1)
  clear hM hN hb hw1 k1 b1 hGB
  go_enter Tryd.func3, Tryd.ntmps3
  go_upto_region 1 with fail
  rw [← HBB.out, ← HW1.out]
  go_wp2_with fail
  (with_reducible refine KA.mono ?_)
  rintro e w2 ⟨rfl, b2⟩
  have K2 := Lib.hid ((b2.block b (Array.getElem?_eq_some_iff.1 K1.out).1).trans K1.out)
  have B2 := Lib.hid (B1.out.trans (b2.mono B1.out.size))
  obtain ⟨⟨c0, c1, c2, c3, c4, c5, c6⟩, c7, c8, c9, c10, c11, c12, c13⟩ := cells14 K2.out
  clear KA b2
  go_wp2_with fail
  (with_reducible refine (KG _).mono ?_)
  rintro e w3 ⟨rfl, b3⟩
  have K3 := Lib.hid ((b3.block b (Array.getElem?_eq_some_iff.1 K2.out).1).trans K2.out)
  have B3 := Lib.hid (B2.out.trans (b3.mono B2.out.size))
  clear KG b3 c0 c1 c2 c3 c4 c5 c6 c7 c8 c9 c10 c11 c12 c13
  cases GB with
  | true =>
    go_wp2
    go_ret
    exact ⟨rfl, B3.out⟩
  | false =>
  have hgr := of_decide_eq_false HGB.out.symm
  have KC := copyMsg_any M (xa, xn, xc) sa sc ia ic w3 (HM.out.below B3.out) (by omega) (by omega)
  have HGR := Lib.hid hgr
  clear hgr
  obtain ⟨⟨c0, c1, c2, c3, c4, c5, c6⟩, c7, c8, c9, c10, c11, c12, c13⟩ := cells14 K3.out
  go_wp2_with fail
  (with_reducible refine KC.mono ?_)
  rintro e w4 ⟨⟨ya, yn, yc⟩, ta, tc, ja, jc, rfl, v4, b4⟩
  have k4 := (b4.block b (Array.getElem?_eq_some_iff.1 K3.out).1).trans K3.out
  have bb4 := B3.out.trans (b4.mono B3.out.size)
  obtain ⟨q, hq⟩ : ∃ q, q = w4.heap.size := ⟨_, rfl⟩
  obtain ⟨w5, hw5⟩ : ∃ x, x = w4.alloc (.cells #[.int .i64 M.k, .int .i64 M.f, .int .i64 M.t, .int .i64 M.op, .int .i64 M.cd, .string M.key, .int .i64 M.m.N, .int .i64 M.m.c, .int .i64 M.m.s, .int .i64 M.m.t, .bool M.m.d, .slice ya yn yc, .slice ta M.sy.length tc, .slice ja M.it.length jc] MMT) := ⟨_, rfl⟩
  have b5 : Below w4.heap.size w4 w5 := by rw [hw5]; exact below_alloc w4 _
  have j5 : w5.heap[q]? = some (.cells #[.int .i64 M.k, .int .i64 M.f, .int .i64 M.t, .int .i64 M.op, .int .i64 M.cd, .string M.key, .int .i64 M.m.N, .int .i64 M.m.c, .int .i64 M.m.s, .int .i64 M.m.t, .bool M.m.d, .slice ya yn yc, .slice ta M.sy.length tc, .slice ja M.it.length jc] MMT (0, 0)) := by rw [hw5, hq]; exact heap_alloc_new w4 _
  have J5 := Lib.hid j5
  have K5 := Lib.hid ((b5.block b (Array.getElem?_eq_some_iff.1 k4).1).trans k4)
  have B5 := Lib.hid (bb4.trans (b5.mono bb4.size))
  have V5 := Lib.hid (v4.below b5)
  have HW5 := Lib.hid hw5
  have HQ := Lib.hid hq
  clear KC v4 b4 k4 bb4 hq hw5 b5 j5 c0 c1 c2 c3 c4 c5 c6 c7 c8 c9 c10 c11 c12 c13
  go_upto_region 6 with fail
  rw [← HW5.out, ← HQ.out]
  obtain ⟨⟨c0, c1, c2, c3, c4, c5, c6⟩, c7, c8, c9, c10, c11, c12, c13⟩ := cells14 J5.out
  have KX := encode_anyM M (ya, yn, yc) ta tc ja jc w5 V5.out
  unfold GivesM at KX
  have hle := encM_len M
  obtain ⟨⟨L, E⟩, hE⟩ : ∃ p, p = encM M := ⟨_, rfl⟩
  rw [← hE] at KX hle
  simp only at hle
  go_wp2_with fail
  (with_reducible refine KX.mono ?_)
  rintro e w6 ⟨ad6, cap6, rfl, o6, y6, b6⟩
  have K6 := Lib.hid ((b6.block b (Array.getElem?_eq_some_iff.1 K5.out).1).trans K5.out)
  have J6 := Lib.hid ((b6.block q (Array.getElem?_eq_some_iff.1 J5.out).1).trans J5.out)
  have B6 := Lib.hid (B5.out.trans (b6.mono B5.out.size))
  have V6 := Lib.hid (V5.out.below b6)
  have O6 := Lib.hid o6
  have Y6 := Lib.hid y6
  clear KX b6 o6 y6 c0 c1 c2 c3 c4 c5 c6 c7 c8 c9 c10 c11 c12 c13
  obtain ⟨⟨c0, c1, c2, c3, c4, c5, c6⟩, c7, c8, c9, c10, c11, c12, c13⟩ := cells14 K6.out
  have KX := rencode_anyM M (xa, xn, xc) sa sc ia ic w6 (HM.out.below B6.out)
  unfold GivesM at KX
  rw [← hE] at KX
  have HE := Lib.hid hE
  clear hE
  go_wp2_with fail
  (with_reducible refine KX.mono ?_)
  rintro e w7 ⟨ad7, cap7, rfl, o7, y7, b7⟩
  have k7 := (b7.block b (Array.getElem?_eq_some_iff.1 K6.out).1).trans K6.out
  have j7 := (b7.block q (Array.getElem?_eq_some_iff.1 J6.out).1).trans J6.out
  have B7 := Lib.hid (B6.out.trans (b7.mono B6.out.size))
  have V7 := Lib.hid (V6.out.below b7)
  have h6 : BytesV w7 (ad6, L.length, cap6) L := ownBytes (own_belowM O6.out b7) Y6.out (by omega)
  have h7 : BytesV w7 (ad7, L.length, cap7) L := ownBytes o7 y7 (by omega)
  have KB := sameBytes_any ad6 L.length cap6 L ad7 L.length cap7 L w7.drew (h6.below (drewBelow w7)) (h7.below (drewBelow w7))
  rw [decide_eq_true rfl] at KB
  have hcode := enc_code M
  obtain ⟨CB, hCB⟩ : ∃ c, c = (rightM M && decide ((msgLE M).length ≤ 65536)) := ⟨_, rfl⟩
  rw [← hCB] at hcode
  have KC := fun W h => check_anyM M (ya, yn, yc) ta tc ja jc W h
  have KR := fun W h => rcheck_any M (xa, xn, xc) sa sc ia ic W h
  rw [hcode] at KC
  rw [← hCB] at KR
  have KS := fun W h1 h2 => sameMsg_any M M (ya, yn, yc) ta tc ja jc (xa, xn, xc) sa sc ia ic W h1 h2 (by have := HGR.out; omega) (by have := HGR.out; omega)
  rw [decide_eq_true rfl] at KS
  have hEE : (E == E) = true := beq_self_eq_true E
  have hCC : (CB == CB) = true := beq_self_eq_true CB
  have KB := Lib.hid KB
  have KC := Lib.hid KC
  have KR := Lib.hid KR
  have KS := Lib.hid KS
  clear KX b7 o7 y7 c0 c1 c2 c3 c4 c5 c6 c7 c8 c9 c10 c11 c12 c13 h6 h7 hcode hCB
  have P0 : w7.drew.cell? ⟨b, 0, none⟩ = some (.int .i64 M.k) ∧ w7.drew.cell? ⟨b, 1, none⟩ = some (.int .i64 M.f) ∧ w7.drew.cell? ⟨b, 2, none⟩ = some (.int .i64 M.t) ∧ w7.drew.cell? ⟨b, 3, none⟩ = some (.int .i64 M.op) ∧ w7.drew.cell? ⟨b, 4, none⟩ = some (.int .i64 M.cd) ∧ w7.drew.cell? ⟨b, 5, none⟩ = some (.string M.key) ∧ w7.drew.cell? ⟨b, 6, none⟩ = some (.int .i64 M.m.N) ∧ w7.drew.cell? ⟨b, 7, none⟩ = some (.int .i64 M.m.c) ∧ w7.drew.cell? ⟨b, 8, none⟩ = some (.int .i64 M.m.s) ∧ w7.drew.cell? ⟨b, 9, none⟩ = some (.int .i64 M.m.t) ∧ w7.drew.cell? ⟨b, 10, none⟩ = some (.bool M.m.d) ∧ w7.drew.cell? ⟨b, 11, none⟩ = some (.slice xa xn xc) ∧ w7.drew.cell? ⟨b, 12, none⟩ = some (.slice sa M.sy.length sc) ∧ w7.drew.cell? ⟨b, 13, none⟩ = some (.slice ia M.it.length ic) ∧ w7.drew.cell? ⟨q, 0, none⟩ = some (.int .i64 M.k) ∧ w7.drew.cell? ⟨q, 1, none⟩ = some (.int .i64 M.f) ∧ w7.drew.cell? ⟨q, 2, none⟩ = some (.int .i64 M.t) ∧ w7.drew.cell? ⟨q, 3, none⟩ = some (.int .i64 M.op) ∧ w7.drew.cell? ⟨q, 4, none⟩ = some (.int .i64 M.cd) ∧ w7.drew.cell? ⟨q, 5, none⟩ = some (.string M.key) ∧ w7.drew.cell? ⟨q, 6, none⟩ = some (.int .i64 M.m.N) ∧ w7.drew.cell? ⟨q, 7, none⟩ = some (.int .i64 M.m.c) ∧ w7.drew.cell? ⟨q, 8, none⟩ = some (.int .i64 M.m.s) ∧ w7.drew.cell? ⟨q, 9, none⟩ = some (.int .i64 M.m.t) ∧ w7.drew.cell? ⟨q, 10, none⟩ = some (.bool M.m.d) ∧ w7.drew.cell? ⟨q, 11, none⟩ = some (.slice ya yn yc) ∧ w7.drew.cell? ⟨q, 12, none⟩ = some (.slice ta M.sy.length tc) ∧ w7.drew.cell? ⟨q, 13, none⟩ = some (.slice ja M.it.length jc) := ⟨cell_of_row _ _ 0 _ _ _ (show w7.drew.heap[b]? = _ from k7), cell_of_row _ _ 1 _ _ _ (show w7.drew.heap[b]? = _ from k7), cell_of_row _ _ 2 _ _ _ (show w7.drew.heap[b]? = _ from k7), cell_of_row _ _ 3 _ _ _ (show w7.drew.heap[b]? = _ from k7), cell_of_row _ _ 4 _ _ _ (show w7.drew.heap[b]? = _ from k7), cell_of_row _ _ 5 _ _ _ (show w7.drew.heap[b]? = _ from k7), cell_of_row _ _ 6 _ _ _ (show w7.drew.heap[b]? = _ from k7), cell_of_row _ _ 7 _ _ _ (show w7.drew.heap[b]? = _ from k7), cell_of_row _ _ 8 _ _ _ (show w7.drew.heap[b]? = _ from k7), cell_of_row _ _ 9 _ _ _ (show w7.drew.heap[b]? = _ from k7), cell_of_row _ _ 10 _ _ _ (show w7.drew.heap[b]? = _ from k7), cell_of_row _ _ 11 _ _ _ (show w7.drew.heap[b]? = _ from k7), cell_of_row _ _ 12 _ _ _ (show w7.drew.heap[b]? = _ from k7), cell_of_row _ _ 13 _ _ _ (show w7.drew.heap[b]? = _ from k7), cell_of_row _ _ 0 _ _ _ (show w7.drew.heap[q]? = _ from j7), cell_of_row _ _ 1 _ _ _ (show w7.drew.heap[q]? = _ from j7), cell_of_row _ _ 2 _ _ _ (show w7.drew.heap[q]? = _ from j7), cell_of_row _ _ 3 _ _ _ (show w7.drew.heap[q]? = _ from j7), cell_of_row _ _ 4 _ _ _ (show w7.drew.heap[q]? = _ from j7), cell_of_row _ _ 5 _ _ _ (show w7.drew.heap[q]? = _ from j7), cell_of_row _ _ 6 _ _ _ (show w7.drew.heap[q]? = _ from j7), cell_of_row _ _ 7 _ _ _ (show w7.drew.heap[q]? = _ from j7), cell_of_row _ _ 8 _ _ _ (show w7.drew.heap[q]? = _ from j7), cell_of_row _ _ 9 _ _ _ (show w7.drew.heap[q]? = _ from j7), cell_of_row _ _ 10 _ _ _ (show w7.drew.heap[q]? = _ from j7), cell_of_row _ _ 11 _ _ _ (show w7.drew.heap[q]? = _ from j7), cell_of_row _ _ 12 _ _ _ (show w7.drew.heap[q]? = _ from j7), cell_of_row _ _ 13 _ _ _ (show w7.drew.heap[q]? = _ from j7)⟩
  go_upto_region 8 with fail
  refine GoX.start 20 (fun w' => w'.cell? ⟨b, 0, none⟩ = some (.int .i64 M.k) ∧ w'.cell? ⟨b, 1, none⟩ = some (.int .i64 M.f) ∧ w'.cell? ⟨b, 2, none⟩ = some (.int .i64 M.t) ∧ w'.cell? ⟨b, 3, none⟩ = some (.int .i64 M.op) ∧ w'.cell? ⟨b, 4, none⟩ = some (.int .i64 M.cd) ∧ w'.cell? ⟨b, 5, none⟩ = some (.string M.key) ∧ w'.cell? ⟨b, 6, none⟩ = some (.int .i64 M.m.N) ∧ w'.cell? ⟨b, 7, none⟩ = some (.int .i64 M.m.c) ∧ w'.cell? ⟨b, 8, none⟩ = some (.int .i64 M.m.s) ∧ w'.cell? ⟨b, 9, none⟩ = some (.int .i64 M.m.t) ∧ w'.cell? ⟨b, 10, none⟩ = some (.bool M.m.d) ∧ w'.cell? ⟨b, 11, none⟩ = some (.slice xa xn xc) ∧ w'.cell? ⟨b, 12, none⟩ = some (.slice sa M.sy.length sc) ∧ w'.cell? ⟨b, 13, none⟩ = some (.slice ia M.it.length ic) ∧ w'.cell? ⟨q, 0, none⟩ = some (.int .i64 M.k) ∧ w'.cell? ⟨q, 1, none⟩ = some (.int .i64 M.f) ∧ w'.cell? ⟨q, 2, none⟩ = some (.int .i64 M.t) ∧ w'.cell? ⟨q, 3, none⟩ = some (.int .i64 M.op) ∧ w'.cell? ⟨q, 4, none⟩ = some (.int .i64 M.cd) ∧ w'.cell? ⟨q, 5, none⟩ = some (.string M.key) ∧ w'.cell? ⟨q, 6, none⟩ = some (.int .i64 M.m.N) ∧ w'.cell? ⟨q, 7, none⟩ = some (.int .i64 M.m.c) ∧ w'.cell? ⟨q, 8, none⟩ = some (.int .i64 M.m.s) ∧ w'.cell? ⟨q, 9, none⟩ = some (.int .i64 M.m.t) ∧ w'.cell? ⟨q, 10, none⟩ = some (.bool M.m.d) ∧ w'.cell? ⟨q, 11, none⟩ = some (.slice ya yn yc) ∧ w'.cell? ⟨q, 12, none⟩ = some (.slice ta M.sy.length tc) ∧ w'.cell? ⟨q, 13, none⟩ = some (.slice ja M.it.length jc)) (by kernel_rfl) ?_
  refine GoX.take 0 rfl (by kernel_rfl) (by kernel_rfl) (by rfl) (fun _ _ _ h => h) (v := ?tv0g1) P0 ?ty0g1 ?tr0g1
  case ty0g1 => (intro w hSw; (try dsimp only at hSw); go_simp; first | done | with_reducible rfl)
  simp only [Act.put, List.setIfInBounds_toArray, List.set_cons_zero, List.set_cons_succ]
  refine GoX.take 1 rfl (by kernel_rfl) (by kernel_rfl) (by rfl) (fun _ _ _ h => h) (v := ?tv1g2) P0 ?ty1g2 ?tr1g2
  case ty1g2 => (intro w hSw; (try dsimp only at hSw); go_simp; first | done | with_reducible rfl)
  simp only [Act.put, List.setIfInBounds_toArray, List.set_cons_zero, List.set_cons_succ]
  refine GoX.one 2 rfl (by kernel_rfl) (by decide) (fun K hK => ?_)
  rw [if_pos (by rfl)]
  go_simp
  (with_reducible refine KB.out.mono ?_)
  rintro e' w8 ⟨rfl, bz'⟩
  have bz : Below w7.heap.size w7 w8 := ⟨bz'.os, bz'.tape, bz'.output, bz'.size, bz'.block⟩
  have k8 := (bz.block b (Array.getElem?_eq_some_iff.1 k7).1).trans k7
  have j8 := (bz.block q (Array.getElem?_eq_some_iff.1 j7).1).trans j7
  have B8 := Lib.hid (B7.out.trans (bz.mono B7.out.size))
  have P8 : w8.cell? ⟨b, 0, none⟩ = some (.int .i64 M.k) ∧ w8.cell? ⟨b, 1, none⟩ = some (.int .i64 M.f) ∧ w8.cell? ⟨b, 2, none⟩ = some (.int .i64 M.t) ∧ w8.cell? ⟨b, 3, none⟩ = some (.int .i64 M.op) ∧ w8.cell? ⟨b, 4, none⟩ = some (.int .i64 M.cd) ∧ w8.cell? ⟨b, 5, none⟩ = some (.string M.key) ∧ w8.cell? ⟨b, 6, none⟩ = some (.int .i64 M.m.N) ∧ w8.cell? ⟨b, 7, none⟩ = some (.int .i64 M.m.c) ∧ w8.cell? ⟨b, 8, none⟩ = some (.int .i64 M.m.s) ∧ w8.cell? ⟨b, 9, none⟩ = some (.int .i64 M.m.t) ∧ w8.cell? ⟨b, 10, none⟩ = some (.bool M.m.d) ∧ w8.cell? ⟨b, 11, none⟩ = some (.slice xa xn xc) ∧ w8.cell? ⟨b, 12, none⟩ = some (.slice sa M.sy.length sc) ∧ w8.cell? ⟨b, 13, none⟩ = some (.slice ia M.it.length ic) ∧ w8.cell? ⟨q, 0, none⟩ = some (.int .i64 M.k) ∧ w8.cell? ⟨q, 1, none⟩ = some (.int .i64 M.f) ∧ w8.cell? ⟨q, 2, none⟩ = some (.int .i64 M.t) ∧ w8.cell? ⟨q, 3, none⟩ = some (.int .i64 M.op) ∧ w8.cell? ⟨q, 4, none⟩ = some (.int .i64 M.cd) ∧ w8.cell? ⟨q, 5, none⟩ = some (.string M.key) ∧ w8.cell? ⟨q, 6, none⟩ = some (.int .i64 M.m.N) ∧ w8.cell? ⟨q, 7, none⟩ = some (.int .i64 M.m.c) ∧ w8.cell? ⟨q, 8, none⟩ = some (.int .i64 M.m.s) ∧ w8.cell? ⟨q, 9, none⟩ = some (.int .i64 M.m.t) ∧ w8.cell? ⟨q, 10, none⟩ = some (.bool M.m.d) ∧ w8.cell? ⟨q, 11, none⟩ = some (.slice ya yn yc) ∧ w8.cell? ⟨q, 12, none⟩ = some (.slice ta M.sy.length tc) ∧ w8.cell? ⟨q, 13, none⟩ = some (.slice ja M.it.length jc) := ⟨cell_of_row _ _ 0 _ _ _ k8, cell_of_row _ _ 1 _ _ _ k8, cell_of_row _ _ 2 _ _ _ k8, cell_of_row _ _ 3 _ _ _ k8, cell_of_row _ _ 4 _ _ _ k8, cell_of_row _ _ 5 _ _ _ k8, cell_of_row _ _ 6 _ _ _ k8, cell_of_row _ _ 7 _ _ _ k8, cell_of_row _ _ 8 _ _ _ k8, cell_of_row _ _ 9 _ _ _ k8, cell_of_row _ _ 10 _ _ _ k8, cell_of_row _ _ 11 _ _ _ k8, cell_of_row _ _ 12 _ _ _ k8, cell_of_row _ _ 13 _ _ _ k8, cell_of_row _ _ 0 _ _ _ j8, cell_of_row _ _ 1 _ _ _ j8, cell_of_row _ _ 2 _ _ _ j8, cell_of_row _ _ 3 _ _ _ j8, cell_of_row _ _ 4 _ _ _ j8, cell_of_row _ _ 5 _ _ _ j8, cell_of_row _ _ 6 _ _ _ j8, cell_of_row _ _ 7 _ _ _ j8, cell_of_row _ _ 8 _ _ _ j8, cell_of_row _ _ 9 _ _ _ j8, cell_of_row _ _ 10 _ _ _ j8, cell_of_row _ _ 11 _ _ _ j8, cell_of_row _ _ 12 _ _ _ j8, cell_of_row _ _ 13 _ _ _ j8⟩
  have V8 := Lib.hid (V7.out.below bz)
  clear bz bz' KB
  refine hK.out _ _ P8 (fun _ => ?_)
  clear hK K
  refine GoX.take 3 rfl (by kernel_rfl) (by kernel_rfl) (by rfl) (fun _ _ _ h => h) (v := ?tv3g3) P8 ?ty3g3 ?tr3g3
  case ty3g3 => (intro w hSw; (try dsimp only at hSw); go_simp; first | done | with_reducible rfl)
  simp only [Act.put, List.setIfInBounds_toArray, List.set_cons_zero, List.set_cons_succ]
  refine GoX.take 4 rfl (by kernel_rfl) (by kernel_rfl) (by rfl) (fun _ _ _ h => h) (v := ?tv4g4) P8 ?ty4g4 ?tr4g4
  case ty4g4 => (intro w hSw; (try dsimp only at hSw); go_simp; first | done | with_reducible rfl)
  simp only [Act.put, List.setIfInBounds_toArray, List.set_cons_zero, List.set_cons_succ]
  refine GoX.take 5 rfl (by kernel_rfl) (by kernel_rfl) (by rfl) (fun _ _ _ h => h) (v := ?tv5g5) P8 ?ty5g5 ?tr5g5
  case ty5g5 => (intro w hSw; (try dsimp only at hSw); go_simp; first | done | with_reducible rfl)
  simp only [Act.put, List.setIfInBounds_toArray, List.set_cons_zero, List.set_cons_succ]
  refine GoX.take 6 rfl (by kernel_rfl) (by kernel_rfl) (by rfl) (fun _ _ _ h => h) (v := ?tv6g6) P8 ?ty6g6 ?tr6g6
  case ty6g6 => (intro w hSw; (try dsimp only at hSw); go_simp; first | done | with_reducible rfl)
  simp only [Act.put, List.setIfInBounds_toArray, List.set_cons_zero, List.set_cons_succ]
  refine GoX.take 7 rfl (by kernel_rfl) (by kernel_rfl) (by rfl) (fun _ _ _ h => h) (v := ?tv7g7) P8 ?ty7g7 ?tr7g7
  case ty7g7 => (intro w hSw; (try dsimp only at hSw); go_simp; first | done | with_reducible rfl)
  simp only [Act.put, List.setIfInBounds_toArray, List.set_cons_zero, List.set_cons_succ]
  refine GoX.take 8 rfl (by kernel_rfl) (by kernel_rfl) (by rfl) (fun _ _ _ h => h) (v := ?tv8g8) P8 ?ty8g8 ?tr8g8
  case ty8g8 => (intro w hSw; (try dsimp only at hSw); go_simp; first | done | with_reducible rfl)
  simp only [Act.put, List.setIfInBounds_toArray, List.set_cons_zero, List.set_cons_succ]
  refine GoX.take 9 rfl (by kernel_rfl) (by kernel_rfl) (by rfl) (fun _ _ _ h => h) (v := ?tv9g9) P8 ?ty9g9 ?tr9g9
  case ty9g9 => (intro w hSw; (try dsimp only at hSw); go_simp; first | done | with_reducible rfl)
  simp only [Act.put, List.setIfInBounds_toArray, List.set_cons_zero, List.set_cons_succ]
  refine GoX.take 11 rfl (by kernel_rfl) (by kernel_rfl) (by rfl) (fun _ _ _ h => h) (v := ?tv11g10) P8 ?ty11g10 ?tr11g10
  case ty11g10 => (intro w hSw; (try dsimp only at hSw); go_simp; first | done | with_reducible rfl)
  simp only [Act.put, List.setIfInBounds_toArray, List.set_cons_zero, List.set_cons_succ]
  refine GoX.one 10 rfl (by kernel_rfl) (by decide) (fun K hK => ?_)
  rw [if_pos (by rfl)]
  go_simp
  (with_reducible refine (KC.out _ V8.out).mono ?_)
  rintro e' w9 ⟨rfl, bz⟩
  have k9 := (bz.block b (Array.getElem?_eq_some_iff.1 k8).1).trans k8
  have j9 := (bz.block q (Array.getElem?_eq_some_iff.1 j8).1).trans j8
  have B9 := Lib.hid (B8.out.trans (bz.mono B8.out.size))
  have P9 : w9.cell? ⟨b, 0, none⟩ = some (.int .i64 M.k) ∧ w9.cell? ⟨b, 1, none⟩ = some (.int .i64 M.f) ∧ w9.cell? ⟨b, 2, none⟩ = some (.int .i64 M.t) ∧ w9.cell? ⟨b, 3, none⟩ = some (.int .i64 M.op) ∧ w9.cell? ⟨b, 4, none⟩ = some (.int .i64 M.cd) ∧ w9.cell? ⟨b, 5, none⟩ = some (.string M.key) ∧ w9.cell? ⟨b, 6, none⟩ = some (.int .i64 M.m.N) ∧ w9.cell? ⟨b, 7, none⟩ = some (.int .i64 M.m.c) ∧ w9.cell? ⟨b, 8, none⟩ = some (.int .i64 M.m.s) ∧ w9.cell? ⟨b, 9, none⟩ = some (.int .i64 M.m.t) ∧ w9.cell? ⟨b, 10, none⟩ = some (.bool M.m.d) ∧ w9.cell? ⟨b, 11, none⟩ = some (.slice xa xn xc) ∧ w9.cell? ⟨b, 12, none⟩ = some (.slice sa M.sy.length sc) ∧ w9.cell? ⟨b, 13, none⟩ = some (.slice ia M.it.length ic) ∧ w9.cell? ⟨q, 0, none⟩ = some (.int .i64 M.k) ∧ w9.cell? ⟨q, 1, none⟩ = some (.int .i64 M.f) ∧ w9.cell? ⟨q, 2, none⟩ = some (.int .i64 M.t) ∧ w9.cell? ⟨q, 3, none⟩ = some (.int .i64 M.op) ∧ w9.cell? ⟨q, 4, none⟩ = some (.int .i64 M.cd) ∧ w9.cell? ⟨q, 5, none⟩ = some (.string M.key) ∧ w9.cell? ⟨q, 6, none⟩ = some (.int .i64 M.m.N) ∧ w9.cell? ⟨q, 7, none⟩ = some (.int .i64 M.m.c) ∧ w9.cell? ⟨q, 8, none⟩ = some (.int .i64 M.m.s) ∧ w9.cell? ⟨q, 9, none⟩ = some (.int .i64 M.m.t) ∧ w9.cell? ⟨q, 10, none⟩ = some (.bool M.m.d) ∧ w9.cell? ⟨q, 11, none⟩ = some (.slice ya yn yc) ∧ w9.cell? ⟨q, 12, none⟩ = some (.slice ta M.sy.length tc) ∧ w9.cell? ⟨q, 13, none⟩ = some (.slice ja M.it.length jc) := ⟨cell_of_row _ _ 0 _ _ _ k9, cell_of_row _ _ 1 _ _ _ k9, cell_of_row _ _ 2 _ _ _ k9, cell_of_row _ _ 3 _ _ _ k9, cell_of_row _ _ 4 _ _ _ k9, cell_of_row _ _ 5 _ _ _ k9, cell_of_row _ _ 6 _ _ _ k9, cell_of_row _ _ 7 _ _ _ k9, cell_of_row _ _ 8 _ _ _ k9, cell_of_row _ _ 9 _ _ _ k9, cell_of_row _ _ 10 _ _ _ k9, cell_of_row _ _ 11 _ _ _ k9, cell_of_row _ _ 12 _ _ _ k9, cell_of_row _ _ 13 _ _ _ k9, cell_of_row _ _ 0 _ _ _ j9, cell_of_row _ _ 1 _ _ _ j9, cell_of_row _ _ 2 _ _ _ j9, cell_of_row _ _ 3 _ _ _ j9, cell_of_row _ _ 4 _ _ _ j9, cell_of_row _ _ 5 _ _ _ j9, cell_of_row _ _ 6 _ _ _ j9, cell_of_row _ _ 7 _ _ _ j9, cell_of_row _ _ 8 _ _ _ j9, cell_of_row _ _ 9 _ _ _ j9, cell_of_row _ _ 10 _ _ _ j9, cell_of_row _ _ 11 _ _ _ j9, cell_of_row _ _ 12 _ _ _ j9, cell_of_row _ _ 13 _ _ _ j9⟩
  have V9 := Lib.hid (V8.out.below bz)
  clear bz KC
  refine hK.out _ _ P9 (fun _ => ?_)
  clear hK K
  refine GoX.one 12 rfl (by kernel_rfl) (by decide) (fun K hK => ?_)
  rw [if_pos (by rfl)]
  go_simp
  (with_reducible refine (KR.out _ (HM.out.below B9.out)).mono ?_)
  rintro e' w10 ⟨rfl, bz⟩
  have k10 := (bz.block b (Array.getElem?_eq_some_iff.1 k9).1).trans k9
  have j10 := (bz.block q (Array.getElem?_eq_some_iff.1 j9).1).trans j9
  have B10 := Lib.hid (B9.out.trans (bz.mono B9.out.size))
  have P10 : w10.cell? ⟨b, 0, none⟩ = some (.int .i64 M.k) ∧ w10.cell? ⟨b, 1, none⟩ = some (.int .i64 M.f) ∧ w10.cell? ⟨b, 2, none⟩ = some (.int .i64 M.t) ∧ w10.cell? ⟨b, 3, none⟩ = some (.int .i64 M.op) ∧ w10.cell? ⟨b, 4, none⟩ = some (.int .i64 M.cd) ∧ w10.cell? ⟨b, 5, none⟩ = some (.string M.key) ∧ w10.cell? ⟨b, 6, none⟩ = some (.int .i64 M.m.N) ∧ w10.cell? ⟨b, 7, none⟩ = some (.int .i64 M.m.c) ∧ w10.cell? ⟨b, 8, none⟩ = some (.int .i64 M.m.s) ∧ w10.cell? ⟨b, 9, none⟩ = some (.int .i64 M.m.t) ∧ w10.cell? ⟨b, 10, none⟩ = some (.bool M.m.d) ∧ w10.cell? ⟨b, 11, none⟩ = some (.slice xa xn xc) ∧ w10.cell? ⟨b, 12, none⟩ = some (.slice sa M.sy.length sc) ∧ w10.cell? ⟨b, 13, none⟩ = some (.slice ia M.it.length ic) ∧ w10.cell? ⟨q, 0, none⟩ = some (.int .i64 M.k) ∧ w10.cell? ⟨q, 1, none⟩ = some (.int .i64 M.f) ∧ w10.cell? ⟨q, 2, none⟩ = some (.int .i64 M.t) ∧ w10.cell? ⟨q, 3, none⟩ = some (.int .i64 M.op) ∧ w10.cell? ⟨q, 4, none⟩ = some (.int .i64 M.cd) ∧ w10.cell? ⟨q, 5, none⟩ = some (.string M.key) ∧ w10.cell? ⟨q, 6, none⟩ = some (.int .i64 M.m.N) ∧ w10.cell? ⟨q, 7, none⟩ = some (.int .i64 M.m.c) ∧ w10.cell? ⟨q, 8, none⟩ = some (.int .i64 M.m.s) ∧ w10.cell? ⟨q, 9, none⟩ = some (.int .i64 M.m.t) ∧ w10.cell? ⟨q, 10, none⟩ = some (.bool M.m.d) ∧ w10.cell? ⟨q, 11, none⟩ = some (.slice ya yn yc) ∧ w10.cell? ⟨q, 12, none⟩ = some (.slice ta M.sy.length tc) ∧ w10.cell? ⟨q, 13, none⟩ = some (.slice ja M.it.length jc) := ⟨cell_of_row _ _ 0 _ _ _ k10, cell_of_row _ _ 1 _ _ _ k10, cell_of_row _ _ 2 _ _ _ k10, cell_of_row _ _ 3 _ _ _ k10, cell_of_row _ _ 4 _ _ _ k10, cell_of_row _ _ 5 _ _ _ k10, cell_of_row _ _ 6 _ _ _ k10, cell_of_row _ _ 7 _ _ _ k10, cell_of_row _ _ 8 _ _ _ k10, cell_of_row _ _ 9 _ _ _ k10, cell_of_row _ _ 10 _ _ _ k10, cell_of_row _ _ 11 _ _ _ k10, cell_of_row _ _ 12 _ _ _ k10, cell_of_row _ _ 13 _ _ _ k10, cell_of_row _ _ 0 _ _ _ j10, cell_of_row _ _ 1 _ _ _ j10, cell_of_row _ _ 2 _ _ _ j10, cell_of_row _ _ 3 _ _ _ j10, cell_of_row _ _ 4 _ _ _ j10, cell_of_row _ _ 5 _ _ _ j10, cell_of_row _ _ 6 _ _ _ j10, cell_of_row _ _ 7 _ _ _ j10, cell_of_row _ _ 8 _ _ _ j10, cell_of_row _ _ 9 _ _ _ j10, cell_of_row _ _ 10 _ _ _ j10, cell_of_row _ _ 11 _ _ _ j10, cell_of_row _ _ 12 _ _ _ j10, cell_of_row _ _ 13 _ _ _ j10⟩
  have V10 := Lib.hid (V9.out.below bz)
  clear bz KR
  refine hK.out _ _ P10 (fun _ => ?_)
  clear hK K
  refine GoX.take 13 rfl (by kernel_rfl) (by kernel_rfl) (by rfl) (fun _ _ _ h => h) (v := ?tv13g11) P10 ?ty13g11 ?tr13g11
  case ty13g11 => (intro w hSw; (try dsimp only at hSw); go_simp; first | done | with_reducible rfl)
  simp only [Act.put, List.setIfInBounds_toArray, List.set_cons_zero, List.set_cons_succ]
  refine GoX.take 14 rfl (by kernel_rfl) (by kernel_rfl) (by rfl) (fun _ _ _ h => h) (v := ?tv14g12) P10 ?ty14g12 ?tr14g12
  case ty14g12 => (intro w hSw; (try dsimp only at hSw); go_simp; first | done | with_reducible rfl)
  simp only [Act.put, List.setIfInBounds_toArray, List.set_cons_zero, List.set_cons_succ]
  refine GoX.take 15 rfl (by kernel_rfl) (by kernel_rfl) (by rfl) (fun _ _ _ h => h) (v := ?tv15g13) P10 ?ty15g13 ?tr15g13
  case ty15g13 => (intro w hSw; (try dsimp only at hSw); go_simp; first | done | with_reducible rfl)
  simp only [Act.put, List.setIfInBounds_toArray, List.set_cons_zero, List.set_cons_succ]
  refine GoX.take 16 rfl (by kernel_rfl) (by kernel_rfl) (by rfl) (fun _ _ _ h => h) (v := ?tv16g14) P10 ?ty16g14 ?tr16g14
  case ty16g14 => (intro w hSw; (try dsimp only at hSw); go_simp; first | done | with_reducible rfl)
  simp only [Act.put, List.setIfInBounds_toArray, List.set_cons_zero, List.set_cons_succ]
  refine GoX.take 17 rfl (by kernel_rfl) (by kernel_rfl) (by rfl) (fun _ _ _ h => h) (v := ?tv17g15) P10 ?ty17g15 ?tr17g15
  case ty17g15 => (intro w hSw; (try dsimp only at hSw); go_simp; first | done | with_reducible rfl)
  simp only [Act.put, List.setIfInBounds_toArray, List.set_cons_zero, List.set_cons_succ]
  refine GoX.one 18 rfl (by kernel_rfl) (by decide) (fun K hK => ?_)
  rw [if_pos (by rfl)]
  go_simp
  (with_reducible refine (KS.out _ V10.out (HM.out.below B10.out)).mono ?_)
  rintro e' w11 ⟨rfl, bz⟩
  have k11 := (bz.block b (Array.getElem?_eq_some_iff.1 k10).1).trans k10
  have j11 := (bz.block q (Array.getElem?_eq_some_iff.1 j10).1).trans j10
  have B11 := Lib.hid (B10.out.trans (bz.mono B10.out.size))
  have P11 : w11.cell? ⟨b, 0, none⟩ = some (.int .i64 M.k) ∧ w11.cell? ⟨b, 1, none⟩ = some (.int .i64 M.f) ∧ w11.cell? ⟨b, 2, none⟩ = some (.int .i64 M.t) ∧ w11.cell? ⟨b, 3, none⟩ = some (.int .i64 M.op) ∧ w11.cell? ⟨b, 4, none⟩ = some (.int .i64 M.cd) ∧ w11.cell? ⟨b, 5, none⟩ = some (.string M.key) ∧ w11.cell? ⟨b, 6, none⟩ = some (.int .i64 M.m.N) ∧ w11.cell? ⟨b, 7, none⟩ = some (.int .i64 M.m.c) ∧ w11.cell? ⟨b, 8, none⟩ = some (.int .i64 M.m.s) ∧ w11.cell? ⟨b, 9, none⟩ = some (.int .i64 M.m.t) ∧ w11.cell? ⟨b, 10, none⟩ = some (.bool M.m.d) ∧ w11.cell? ⟨b, 11, none⟩ = some (.slice xa xn xc) ∧ w11.cell? ⟨b, 12, none⟩ = some (.slice sa M.sy.length sc) ∧ w11.cell? ⟨b, 13, none⟩ = some (.slice ia M.it.length ic) ∧ w11.cell? ⟨q, 0, none⟩ = some (.int .i64 M.k) ∧ w11.cell? ⟨q, 1, none⟩ = some (.int .i64 M.f) ∧ w11.cell? ⟨q, 2, none⟩ = some (.int .i64 M.t) ∧ w11.cell? ⟨q, 3, none⟩ = some (.int .i64 M.op) ∧ w11.cell? ⟨q, 4, none⟩ = some (.int .i64 M.cd) ∧ w11.cell? ⟨q, 5, none⟩ = some (.string M.key) ∧ w11.cell? ⟨q, 6, none⟩ = some (.int .i64 M.m.N) ∧ w11.cell? ⟨q, 7, none⟩ = some (.int .i64 M.m.c) ∧ w11.cell? ⟨q, 8, none⟩ = some (.int .i64 M.m.s) ∧ w11.cell? ⟨q, 9, none⟩ = some (.int .i64 M.m.t) ∧ w11.cell? ⟨q, 10, none⟩ = some (.bool M.m.d) ∧ w11.cell? ⟨q, 11, none⟩ = some (.slice ya yn yc) ∧ w11.cell? ⟨q, 12, none⟩ = some (.slice ta M.sy.length tc) ∧ w11.cell? ⟨q, 13, none⟩ = some (.slice ja M.it.length jc) := ⟨cell_of_row _ _ 0 _ _ _ k11, cell_of_row _ _ 1 _ _ _ k11, cell_of_row _ _ 2 _ _ _ k11, cell_of_row _ _ 3 _ _ _ k11, cell_of_row _ _ 4 _ _ _ k11, cell_of_row _ _ 5 _ _ _ k11, cell_of_row _ _ 6 _ _ _ k11, cell_of_row _ _ 7 _ _ _ k11, cell_of_row _ _ 8 _ _ _ k11, cell_of_row _ _ 9 _ _ _ k11, cell_of_row _ _ 10 _ _ _ k11, cell_of_row _ _ 11 _ _ _ k11, cell_of_row _ _ 12 _ _ _ k11, cell_of_row _ _ 13 _ _ _ k11, cell_of_row _ _ 0 _ _ _ j11, cell_of_row _ _ 1 _ _ _ j11, cell_of_row _ _ 2 _ _ _ j11, cell_of_row _ _ 3 _ _ _ j11, cell_of_row _ _ 4 _ _ _ j11, cell_of_row _ _ 5 _ _ _ j11, cell_of_row _ _ 6 _ _ _ j11, cell_of_row _ _ 7 _ _ _ j11, cell_of_row _ _ 8 _ _ _ j11, cell_of_row _ _ 9 _ _ _ j11, cell_of_row _ _ 10 _ _ _ j11, cell_of_row _ _ 11 _ _ _ j11, cell_of_row _ _ 12 _ _ _ j11, cell_of_row _ _ 13 _ _ _ j11⟩
  clear bz KS
  refine hK.out _ _ P11 (fun _ => ?_)
  clear hK K
  refine GoX.take 19 rfl (by kernel_rfl) (by kernel_rfl) (by rfl) (fun _ _ _ h => h) (v := ?tv19g16) P11 ?ty19g16 ?tr19g16
  case ty19g16 => (intro w hSw; (try dsimp only at hSw); go_simp; first | done | with_reducible rfl)
  simp only [Act.put, List.setIfInBounds_toArray, List.set_cons_zero, List.set_cons_succ]
  refine GoX.last 20 rfl (by kernel_rfl) (by kernel_rfl) (by decide) ?_
  rw [if_pos (by rfl)]
  go_simp
  go_wp2
  go_ret
  exact ⟨rfl, B11.out⟩
end Go.Proofs.YtopnjjehefaghaaDoor
