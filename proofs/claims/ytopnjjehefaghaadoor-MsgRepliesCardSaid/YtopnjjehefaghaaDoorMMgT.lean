/-
  msg's laws: MsgReplies' walk.
-/
import Derived.Test.YtopnjjehefaghaaDoorMCh3
import Derived.Test.YtopnjjehefaghaaDoorMWL
import Derived.Test.YtopnjjehefaghaaDoorMMgR
namespace Go.Proofs.YtopnjjehefaghaaDoor
open Go.RowKit

theorem wiB_true {n b : Int} (h0 : 0 ≤ n) (h1 : n ≤ b) : wiB n b = true := wiB_iff.2 ⟨h0, h1⟩
theorem keyL_lenM (s : ByteArray) : (keyL s).length = s.size := by unfold keyL; simp
theorem reply_len (M : MsR) (k : Int) (h : M.key.size ≤ 32) : (msgLE (replyM M k)).length ≤ 65536 := by
  have := keyL_lenM M.key
  simp [msgLE, headLE, replyM, numLE_len, metaLE_len, this]
  omega
theorem reply_right {M : MsR} {k : Int} (h : decide ((encM M).2 = 0) = true) : decide ((encM (replyM M k)).2 = 0) = decide (1 ≤ k ∧ k ≤ 10) := by
  rw [enc_code] at h ⊢
  rw [Bool.and_eq_true] at h
  have hf := right_fits h.1
  rw [decide_eq_true (reply_len M k hf.ks), Bool.and_true]
  by_cases hk : 1 ≤ k ∧ k ≤ 10
  · rw [decide_eq_true hk]
    refine rightM_yes (fun i hi => ?_)
    have : i = 0 ∨ i = 1 ∨ i = 2 ∨ i = 3 ∨ i = 4 ∨ i = 5 ∨ i = 6 ∨ i = 7 ∨ i = 8 ∨ i = 9 ∨ i = 10 ∨ i = 11 := by omega
    rcases this with rfl | rfl | rfl | rfl | rfl | rfl | rfl | rfl | rfl | rfl | rfl | rfl
    · exact decide_eq_true hk.1
    · exact decide_eq_true hk.2
    · exact wiB_true hf.t0 hf.t1
    · exact wiB_true hf.f0 hf.f1
    · exact wiB_true hf.o0 hf.o1
    · exact wiB_true (show (0 : Int) ≤ 0 by decide) (show (0 : Int) ≤ 2147483647 by decide)
    · exact decide_eq_true hf.ks
    · rfl
    · exact decide_eq_true (show 0 ≤ 512 by decide)
    · rfl
    · exact decide_eq_true (show 0 ≤ 100 by decide)
    · rfl
  · rw [decide_eq_false hk]
    by_cases h1 : 1 ≤ k
    · exact rightM_no 1 (by decide) (decide_eq_false (show ¬ k ≤ 10 by omega))
    · exact rightM_no 0 (by decide) (decide_eq_false h1)
theorem nameR_ne (k : Int) : (!(nameR k).toList.isEmpty) = decide (1 ≤ k ∧ k ≤ 10) := by
  by_cases hk : 1 ≤ k ∧ k ≤ 10
  · rw [decide_eq_true hk]
    have : k = 1 ∨ k = 2 ∨ k = 3 ∨ k = 4 ∨ k = 5 ∨ k = 6 ∨ k = 7 ∨ k = 8 ∨ k = 9 ∨ k = 10 := by omega
    rcases this with rfl | rfl | rfl | rfl | rfl | rfl | rfl | rfl | rfl | rfl <;> decide +kernel
  · rw [decide_eq_false hk, nameR, if_neg hk]
    decide +kernel
set_option maxRecDepth 100000 in
set_option maxHeartbeats 16000000 in
theorem msgReplies_walk (M : MsR) (xa : Option Addr) (xn xc : Nat) (sa : Option Addr) (sc : Nat) (ia : Option Addr) (ic : Nat) (k : Int) (w : World) (hN : NmV w) (hM : MsV w M (xa, xn, xc) sa ia) (_ : (Lit.int .i64 k).wf = true) :
    Calls Tryd.prog 5 #[.agg (MsC M (xa, xn, xc) sa sc ia ic), .int .i64 k] w fun e w' => e = .returned (.bool true) ∧ Below w.heap.size w w' := by
  have KG := fun w => great_any11 M (xa, xn, xc) sa sc ia ic w
  obtain ⟨GB, hGB⟩ : ∃ g, g = decide (600 < M.sy.length ∨ 200 < M.it.length) := ⟨_, rfl⟩
  rw [← hGB] at KG
  have HGB := Lib.hid hGB
  have HM := Lib.hid hM
  have HN := Lib.hid hN
  obtain ⟨b, hb⟩ : ∃ b, b = w.heap.size := ⟨_, rfl⟩
  obtain ⟨w1, hw1⟩ : ∃ x, x = w.alloc (.cells #[.int .i64 M.k, .int .i64 M.f, .int .i64 M.t, .int .i64 M.op, .int .i64 M.cd, .string M.key, .int .i64 M.m.N, .int .i64 M.m.c, .int .i64 M.m.s, .int .i64 M.m.t, .bool M.m.d, .slice xa xn xc, .slice sa M.sy.length sc, .slice ia M.it.length ic] MMT) := ⟨_, rfl⟩
  have k1 : w1.heap[b]? = some (.cells #[.int .i64 M.k, .int .i64 M.f, .int .i64 M.t, .int .i64 M.op, .int .i64 M.cd, .string M.key, .int .i64 M.m.N, .int .i64 M.m.c, .int .i64 M.m.s, .int .i64 M.m.t, .bool M.m.d, .slice xa xn xc, .slice sa M.sy.length sc, .slice ia M.it.length ic] MMT (0, 0)) := by rw [hw1, hb]; exact heap_alloc_new w _
  have b1 : Below w.heap.size w w1 := by rw [hw1]; exact below_alloc w _
  have HW1 := Lib.hid hw1
  have HBB := Lib.hid hb
  have K1 := Lib.hid k1
  have B1 := Lib.hid b1
  have KA := alive11_any w1 (hN.below b1)
  clear hM hN hb hw1 k1 b1 hGB
  go_enter Tryd.func5, Tryd.ntmps5
  go_upto_region 1 with fail
  rw [← HBB.out, ← HW1.out]
  go_wp2_with fail
  (with_reducible refine KA.mono ?_)
  rintro e w2 ⟨rfl, b2⟩
  have K2 := Lib.hid ((b2.block b (Array.getElem?_eq_some_iff.1 K1.out).1).trans K1.out)
  have B2 := Lib.hid (B1.out.trans (b2.mono B1.out.size))
  obtain ⟨⟨c0, c1, c2, c3, c4, c5, c6⟩, c7, c8, c9, c10, c11, c12, c13⟩ := cells14 K2.out
  clear KA b2
  go_wp2_with fail
  (with_reducible refine (KG _).mono ?_)
  rintro e w3 ⟨rfl, b3⟩
  have K3 := Lib.hid ((b3.block b (Array.getElem?_eq_some_iff.1 K2.out).1).trans K2.out)
  have B3 := Lib.hid (B2.out.trans (b3.mono B2.out.size))
  clear KG b3 c0 c1 c2 c3 c4 c5 c6 c7 c8 c9 c10 c11 c12 c13
  cases GB with
  | true =>
    go_wp2
    go_ret
    exact ⟨rfl, B3.out⟩
  | false =>
  have hgr := of_decide_eq_false HGB.out.symm
  have HS1 := Lib.hid (show M.sy.length ≤ 10000 by omega)
  have HS2 := Lib.hid (show M.it.length ≤ 10000 by omega)
  have KC := copyMsg_any M (xa, xn, xc) sa sc ia ic w3 (HM.out.below B3.out) HS1.out HS2.out
  clear hgr
  obtain ⟨⟨c0, c1, c2, c3, c4, c5, c6⟩, c7, c8, c9, c10, c11, c12, c13⟩ := cells14 K3.out
  go_wp2_with fail
  (with_reducible refine KC.mono ?_)
  rintro e w4 ⟨⟨ya, yn, yc⟩, ta, tc, ja, jc, rfl, v4, b4⟩
  have K4 := Lib.hid ((b4.block b (Array.getElem?_eq_some_iff.1 K3.out).1).trans K3.out)
  have B4 := Lib.hid (B3.out.trans (b4.mono B3.out.size))
  have KP : Calls Tryd.prog 21 #[.agg (MsC M (ya, yn, yc) ta tc ja jc), .int .i64 k] w4 fun e w' => e = .returned (.agg #[.int .i64 k, .int .i64 M.t, .int .i64 M.f, .int .i64 M.op, .int .i64 0, .string M.key, .int .i64 0, .int .i64 0, .int .i64 0, .int .i64 0, .bool false, .slice none 0 0, .slice none 0 0, .slice none 0 0]) ∧ Below w4.heap.size w4 w' := reply_any M (ya, yn, yc) ta tc ja jc k w4
  clear KC v4 b4 c0 c1 c2 c3 c4 c5 c6 c7 c8 c9 c10 c11 c12 c13
  go_wp2_with fail
  (with_reducible refine KP.mono ?_)
  rintro e w5 ⟨rfl, b5⟩
  have k5 := (b5.block b (Array.getElem?_eq_some_iff.1 K4.out).1).trans K4.out
  have bb5 := B4.out.trans (b5.mono B4.out.size)
  obtain ⟨q, hq⟩ : ∃ q, q = w5.heap.size := ⟨_, rfl⟩
  obtain ⟨w6, hw6⟩ : ∃ x, x = w5.alloc (.cells #[.int .i64 k, .int .i64 M.t, .int .i64 M.f, .int .i64 M.op, .int .i64 0, .string M.key, .int .i64 0, .int .i64 0, .int .i64 0, .int .i64 0, .bool false, .slice none 0 0, .slice none 0 0, .slice none 0 0] MMT) := ⟨_, rfl⟩
  have b6 : Below w5.heap.size w5 w6 := by rw [hw6]; exact below_alloc w5 _
  have j6 : w6.heap[q]? = some (.cells #[.int .i64 k, .int .i64 M.t, .int .i64 M.f, .int .i64 M.op, .int .i64 0, .string M.key, .int .i64 0, .int .i64 0, .int .i64 0, .int .i64 0, .bool false, .slice none 0 0, .slice none 0 0, .slice none 0 0] MMT (0, 0)) := by rw [hw6, hq]; exact heap_alloc_new w5 _
  have k6 := (b6.block b (Array.getElem?_eq_some_iff.1 k5).1).trans k5
  have B6 := Lib.hid (bb5.trans (b6.mono bb5.size))
  have HW6 := Lib.hid hw6
  have HQ := Lib.hid hq
  have KP : ∀ W, Calls Tryd.prog 22 #[.agg (MsC M (xa, xn, xc) sa sc ia ic), .int .i64 k] W fun e w' => e = .returned (.agg #[.int .i64 k, .int .i64 M.t, .int .i64 M.f, .int .i64 M.op, .int .i64 0, .string M.key, .int .i64 0, .int .i64 0, .int .i64 0, .int .i64 0, .bool false, .slice none 0 0, .slice none 0 0, .slice none 0 0]) ∧ Below W.heap.size W w' := rreply_any M (xa, xn, xc) sa sc ia ic k
  have KS : ∀ W, Calls Tryd.prog 17 #[.agg #[.int .i64 k, .int .i64 M.t, .int .i64 M.f, .int .i64 M.op, .int .i64 0, .string M.key, .int .i64 0, .int .i64 0, .int .i64 0, .int .i64 0, .bool false, .slice none 0 0, .slice none 0 0, .slice none 0 0], .agg #[.int .i64 k, .int .i64 M.t, .int .i64 M.f, .int .i64 M.op, .int .i64 0, .string M.key, .int .i64 0, .int .i64 0, .int .i64 0, .int .i64 0, .bool false, .slice none 0 0, .slice none 0 0, .slice none 0 0]] W fun e w' => e = .returned (.bool true) ∧ Below W.heap.size W w' := fun W => by
    have := sameMsg_any (replyM M k) (replyM M k) (none, 0, 0) none 0 none 0 (none, 0, 0) none 0 none 0 W (reply_v M k W) (reply_v M k W) (Nat.zero_le _) (Nat.zero_le _)
    rw [decide_eq_true rfl] at this
    exact this
  have hRC : MsC (replyM M k) (none, 0, 0) none 0 none 0 = #[.int .i64 k, .int .i64 M.t, .int .i64 M.f, .int .i64 M.op, .int .i64 0, .string M.key, .int .i64 0, .int .i64 0, .int .i64 0, .int .i64 0, .bool false, .slice none 0 0, .slice none 0 0, .slice none 0 0] := rfl
  have P0 : w6.drew.cell? ⟨b, 0, none⟩ = some (.int .i64 M.k) ∧ w6.drew.cell? ⟨b, 1, none⟩ = some (.int .i64 M.f) ∧ w6.drew.cell? ⟨b, 2, none⟩ = some (.int .i64 M.t) ∧ w6.drew.cell? ⟨b, 3, none⟩ = some (.int .i64 M.op) ∧ w6.drew.cell? ⟨b, 4, none⟩ = some (.int .i64 M.cd) ∧ w6.drew.cell? ⟨b, 5, none⟩ = some (.string M.key) ∧ w6.drew.cell? ⟨b, 6, none⟩ = some (.int .i64 M.m.N) ∧ w6.drew.cell? ⟨b, 7, none⟩ = some (.int .i64 M.m.c) ∧ w6.drew.cell? ⟨b, 8, none⟩ = some (.int .i64 M.m.s) ∧ w6.drew.cell? ⟨b, 9, none⟩ = some (.int .i64 M.m.t) ∧ w6.drew.cell? ⟨b, 10, none⟩ = some (.bool M.m.d) ∧ w6.drew.cell? ⟨b, 11, none⟩ = some (.slice xa xn xc) ∧ w6.drew.cell? ⟨b, 12, none⟩ = some (.slice sa M.sy.length sc) ∧ w6.drew.cell? ⟨b, 13, none⟩ = some (.slice ia M.it.length ic) ∧ w6.drew.cell? ⟨q, 0, none⟩ = some (.int .i64 k) ∧ w6.drew.cell? ⟨q, 1, none⟩ = some (.int .i64 M.t) ∧ w6.drew.cell? ⟨q, 2, none⟩ = some (.int .i64 M.f) ∧ w6.drew.cell? ⟨q, 3, none⟩ = some (.int .i64 M.op) ∧ w6.drew.cell? ⟨q, 4, none⟩ = some (.int .i64 0) ∧ w6.drew.cell? ⟨q, 5, none⟩ = some (.string M.key) ∧ w6.drew.cell? ⟨q, 6, none⟩ = some (.int .i64 0) ∧ w6.drew.cell? ⟨q, 7, none⟩ = some (.int .i64 0) ∧ w6.drew.cell? ⟨q, 8, none⟩ = some (.int .i64 0) ∧ w6.drew.cell? ⟨q, 9, none⟩ = some (.int .i64 0) ∧ w6.drew.cell? ⟨q, 10, none⟩ = some (.bool false) ∧ w6.drew.cell? ⟨q, 11, none⟩ = some (.slice none 0 0) ∧ w6.drew.cell? ⟨q, 12, none⟩ = some (.slice none 0 0) ∧ w6.drew.cell? ⟨q, 13, none⟩ = some (.slice none 0 0) := ⟨cell_of_row _ _ 0 _ _ _ (show w6.drew.heap[b]? = _ from k6), cell_of_row _ _ 1 _ _ _ (show w6.drew.heap[b]? = _ from k6), cell_of_row _ _ 2 _ _ _ (show w6.drew.heap[b]? = _ from k6), cell_of_row _ _ 3 _ _ _ (show w6.drew.heap[b]? = _ from k6), cell_of_row _ _ 4 _ _ _ (show w6.drew.heap[b]? = _ from k6), cell_of_row _ _ 5 _ _ _ (show w6.drew.heap[b]? = _ from k6), cell_of_row _ _ 6 _ _ _ (show w6.drew.heap[b]? = _ from k6), cell_of_row _ _ 7 _ _ _ (show w6.drew.heap[b]? = _ from k6), cell_of_row _ _ 8 _ _ _ (show w6.drew.heap[b]? = _ from k6), cell_of_row _ _ 9 _ _ _ (show w6.drew.heap[b]? = _ from k6), cell_of_row _ _ 10 _ _ _ (show w6.drew.heap[b]? = _ from k6), cell_of_row _ _ 11 _ _ _ (show w6.drew.heap[b]? = _ from k6), cell_of_row _ _ 12 _ _ _ (show w6.drew.heap[b]? = _ from k6), cell_of_row _ _ 13 _ _ _ (show w6.drew.heap[b]? = _ from k6), cell_of_row _ _ 0 _ _ _ (show w6.drew.heap[q]? = _ from j6), cell_of_row _ _ 1 _ _ _ (show w6.drew.heap[q]? = _ from j6), cell_of_row _ _ 2 _ _ _ (show w6.drew.heap[q]? = _ from j6), cell_of_row _ _ 3 _ _ _ (show w6.drew.heap[q]? = _ from j6), cell_of_row _ _ 4 _ _ _ (show w6.drew.heap[q]? = _ from j6), cell_of_row _ _ 5 _ _ _ (show w6.drew.heap[q]? = _ from j6), cell_of_row _ _ 6 _ _ _ (show w6.drew.heap[q]? = _ from j6), cell_of_row _ _ 7 _ _ _ (show w6.drew.heap[q]? = _ from j6), cell_of_row _ _ 8 _ _ _ (show w6.drew.heap[q]? = _ from j6), cell_of_row _ _ 9 _ _ _ (show w6.drew.heap[q]? = _ from j6), cell_of_row _ _ 10 _ _ _ (show w6.drew.heap[q]? = _ from j6), cell_of_row _ _ 11 _ _ _ (show w6.drew.heap[q]? = _ from j6), cell_of_row _ _ 12 _ _ _ (show w6.drew.heap[q]? = _ from j6), cell_of_row _ _ 13 _ _ _ (show w6.drew.heap[q]? = _ from j6)⟩
  obtain ⟨nm, hnm⟩ : ∃ n, n = nameR k := ⟨_, rfl⟩
  have hnn : (nm.toList != nm.toList) = false := by simp
  have KN1 := fun W h => names_any k W h
  have KN2 := fun W => rnames_any k W
  rw [← hnm] at KN1 KN2
  have KN1 := Lib.hid KN1
  have KN2 := Lib.hid KN2
  have KP := Lib.hid KP
  have KS := Lib.hid KS
  have HNM := Lib.hid hnm
  clear k5 bb5 hq hw6 b6 b5 hRC hnm
  go_upto_region 6 with fail
  rw [← HW6.out, ← HQ.out]
  refine GoX.start 12 (fun w' => w'.cell? ⟨b, 0, none⟩ = some (.int .i64 M.k) ∧ w'.cell? ⟨b, 1, none⟩ = some (.int .i64 M.f) ∧ w'.cell? ⟨b, 2, none⟩ = some (.int .i64 M.t) ∧ w'.cell? ⟨b, 3, none⟩ = some (.int .i64 M.op) ∧ w'.cell? ⟨b, 4, none⟩ = some (.int .i64 M.cd) ∧ w'.cell? ⟨b, 5, none⟩ = some (.string M.key) ∧ w'.cell? ⟨b, 6, none⟩ = some (.int .i64 M.m.N) ∧ w'.cell? ⟨b, 7, none⟩ = some (.int .i64 M.m.c) ∧ w'.cell? ⟨b, 8, none⟩ = some (.int .i64 M.m.s) ∧ w'.cell? ⟨b, 9, none⟩ = some (.int .i64 M.m.t) ∧ w'.cell? ⟨b, 10, none⟩ = some (.bool M.m.d) ∧ w'.cell? ⟨b, 11, none⟩ = some (.slice xa xn xc) ∧ w'.cell? ⟨b, 12, none⟩ = some (.slice sa M.sy.length sc) ∧ w'.cell? ⟨b, 13, none⟩ = some (.slice ia M.it.length ic) ∧ w'.cell? ⟨q, 0, none⟩ = some (.int .i64 k) ∧ w'.cell? ⟨q, 1, none⟩ = some (.int .i64 M.t) ∧ w'.cell? ⟨q, 2, none⟩ = some (.int .i64 M.f) ∧ w'.cell? ⟨q, 3, none⟩ = some (.int .i64 M.op) ∧ w'.cell? ⟨q, 4, none⟩ = some (.int .i64 0) ∧ w'.cell? ⟨q, 5, none⟩ = some (.string M.key) ∧ w'.cell? ⟨q, 6, none⟩ = some (.int .i64 0) ∧ w'.cell? ⟨q, 7, none⟩ = some (.int .i64 0) ∧ w'.cell? ⟨q, 8, none⟩ = some (.int .i64 0) ∧ w'.cell? ⟨q, 9, none⟩ = some (.int .i64 0) ∧ w'.cell? ⟨q, 10, none⟩ = some (.bool false) ∧ w'.cell? ⟨q, 11, none⟩ = some (.slice none 0 0) ∧ w'.cell? ⟨q, 12, none⟩ = some (.slice none 0 0) ∧ w'.cell? ⟨q, 13, none⟩ = some (.slice none 0 0)) (by kernel_rfl) ?_
  refine GoX.take 0 rfl (by kernel_rfl) (by kernel_rfl) (by rfl) (fun _ _ _ h => h) (v := ?tv0g27) P0 ?ty0g27 ?tr0g27
  case ty0g27 => (intro w hSw; (try dsimp only at hSw); go_simp; first | done | with_reducible rfl)
  simp only [Act.put, List.setIfInBounds_toArray, List.set_cons_zero, List.set_cons_succ]
  refine GoX.take 1 rfl (by kernel_rfl) (by kernel_rfl) (by rfl) (fun _ _ _ h => h) (v := ?tv1g28) P0 ?ty1g28 ?tr1g28
  case ty1g28 => (intro w hSw; (try dsimp only at hSw); go_simp; first | done | with_reducible rfl)
  simp only [Act.put, List.setIfInBounds_toArray, List.set_cons_zero, List.set_cons_succ]
  refine GoX.take 2 rfl (by kernel_rfl) (by kernel_rfl) (by rfl) (fun _ _ _ h => h) (v := ?tv2g29) P0 ?ty2g29 ?tr2g29
  case ty2g29 => (intro w hSw; (try dsimp only at hSw); go_simp; first | done | with_reducible rfl)
  simp only [Act.put, List.setIfInBounds_toArray, List.set_cons_zero, List.set_cons_succ]
  refine GoX.one 3 rfl (by kernel_rfl) (by decide) (fun K hK => ?_)
  rw [if_pos (by rfl)]
  go_simp
  (with_reducible refine (KP.out _).mono ?_)
  rintro e' w7 ⟨rfl, bz'⟩
  have bz : Below w6.heap.size w6 w7 := ⟨bz'.os, bz'.tape, bz'.output, bz'.size, bz'.block⟩
  have k7 := (bz.block b (Array.getElem?_eq_some_iff.1 k6).1).trans k6
  have j7 := (bz.block q (Array.getElem?_eq_some_iff.1 j6).1).trans j6
  have B7 := Lib.hid (B6.out.trans (bz.mono B6.out.size))
  have P7 : w7.cell? ⟨b, 0, none⟩ = some (.int .i64 M.k) ∧ w7.cell? ⟨b, 1, none⟩ = some (.int .i64 M.f) ∧ w7.cell? ⟨b, 2, none⟩ = some (.int .i64 M.t) ∧ w7.cell? ⟨b, 3, none⟩ = some (.int .i64 M.op) ∧ w7.cell? ⟨b, 4, none⟩ = some (.int .i64 M.cd) ∧ w7.cell? ⟨b, 5, none⟩ = some (.string M.key) ∧ w7.cell? ⟨b, 6, none⟩ = some (.int .i64 M.m.N) ∧ w7.cell? ⟨b, 7, none⟩ = some (.int .i64 M.m.c) ∧ w7.cell? ⟨b, 8, none⟩ = some (.int .i64 M.m.s) ∧ w7.cell? ⟨b, 9, none⟩ = some (.int .i64 M.m.t) ∧ w7.cell? ⟨b, 10, none⟩ = some (.bool M.m.d) ∧ w7.cell? ⟨b, 11, none⟩ = some (.slice xa xn xc) ∧ w7.cell? ⟨b, 12, none⟩ = some (.slice sa M.sy.length sc) ∧ w7.cell? ⟨b, 13, none⟩ = some (.slice ia M.it.length ic) ∧ w7.cell? ⟨q, 0, none⟩ = some (.int .i64 k) ∧ w7.cell? ⟨q, 1, none⟩ = some (.int .i64 M.t) ∧ w7.cell? ⟨q, 2, none⟩ = some (.int .i64 M.f) ∧ w7.cell? ⟨q, 3, none⟩ = some (.int .i64 M.op) ∧ w7.cell? ⟨q, 4, none⟩ = some (.int .i64 0) ∧ w7.cell? ⟨q, 5, none⟩ = some (.string M.key) ∧ w7.cell? ⟨q, 6, none⟩ = some (.int .i64 0) ∧ w7.cell? ⟨q, 7, none⟩ = some (.int .i64 0) ∧ w7.cell? ⟨q, 8, none⟩ = some (.int .i64 0) ∧ w7.cell? ⟨q, 9, none⟩ = some (.int .i64 0) ∧ w7.cell? ⟨q, 10, none⟩ = some (.bool false) ∧ w7.cell? ⟨q, 11, none⟩ = some (.slice none 0 0) ∧ w7.cell? ⟨q, 12, none⟩ = some (.slice none 0 0) ∧ w7.cell? ⟨q, 13, none⟩ = some (.slice none 0 0) := ⟨cell_of_row _ _ 0 _ _ _ k7, cell_of_row _ _ 1 _ _ _ k7, cell_of_row _ _ 2 _ _ _ k7, cell_of_row _ _ 3 _ _ _ k7, cell_of_row _ _ 4 _ _ _ k7, cell_of_row _ _ 5 _ _ _ k7, cell_of_row _ _ 6 _ _ _ k7, cell_of_row _ _ 7 _ _ _ k7, cell_of_row _ _ 8 _ _ _ k7, cell_of_row _ _ 9 _ _ _ k7, cell_of_row _ _ 10 _ _ _ k7, cell_of_row _ _ 11 _ _ _ k7, cell_of_row _ _ 12 _ _ _ k7, cell_of_row _ _ 13 _ _ _ k7, cell_of_row _ _ 0 _ _ _ j7, cell_of_row _ _ 1 _ _ _ j7, cell_of_row _ _ 2 _ _ _ j7, cell_of_row _ _ 3 _ _ _ j7, cell_of_row _ _ 4 _ _ _ j7, cell_of_row _ _ 5 _ _ _ j7, cell_of_row _ _ 6 _ _ _ j7, cell_of_row _ _ 7 _ _ _ j7, cell_of_row _ _ 8 _ _ _ j7, cell_of_row _ _ 9 _ _ _ j7, cell_of_row _ _ 10 _ _ _ j7, cell_of_row _ _ 11 _ _ _ j7, cell_of_row _ _ 12 _ _ _ j7, cell_of_row _ _ 13 _ _ _ j7⟩
  clear bz bz' KP
  refine hK.out _ _ P7 (fun _ => ?_)
  clear hK K
  refine GoX.one 4 rfl (by kernel_rfl) (by decide) (fun K hK => ?_)
  rw [if_pos (by rfl)]
  go_simp
  (with_reducible refine (KS.out _).mono ?_)
  rintro e' w8 ⟨rfl, bz⟩
  have k8 := (bz.block b (Array.getElem?_eq_some_iff.1 k7).1).trans k7
  have j8 := (bz.block q (Array.getElem?_eq_some_iff.1 j7).1).trans j7
  have B8 := Lib.hid (B7.out.trans (bz.mono B7.out.size))
  have P8 : w8.cell? ⟨b, 0, none⟩ = some (.int .i64 M.k) ∧ w8.cell? ⟨b, 1, none⟩ = some (.int .i64 M.f) ∧ w8.cell? ⟨b, 2, none⟩ = some (.int .i64 M.t) ∧ w8.cell? ⟨b, 3, none⟩ = some (.int .i64 M.op) ∧ w8.cell? ⟨b, 4, none⟩ = some (.int .i64 M.cd) ∧ w8.cell? ⟨b, 5, none⟩ = some (.string M.key) ∧ w8.cell? ⟨b, 6, none⟩ = some (.int .i64 M.m.N) ∧ w8.cell? ⟨b, 7, none⟩ = some (.int .i64 M.m.c) ∧ w8.cell? ⟨b, 8, none⟩ = some (.int .i64 M.m.s) ∧ w8.cell? ⟨b, 9, none⟩ = some (.int .i64 M.m.t) ∧ w8.cell? ⟨b, 10, none⟩ = some (.bool M.m.d) ∧ w8.cell? ⟨b, 11, none⟩ = some (.slice xa xn xc) ∧ w8.cell? ⟨b, 12, none⟩ = some (.slice sa M.sy.length sc) ∧ w8.cell? ⟨b, 13, none⟩ = some (.slice ia M.it.length ic) ∧ w8.cell? ⟨q, 0, none⟩ = some (.int .i64 k) ∧ w8.cell? ⟨q, 1, none⟩ = some (.int .i64 M.t) ∧ w8.cell? ⟨q, 2, none⟩ = some (.int .i64 M.f) ∧ w8.cell? ⟨q, 3, none⟩ = some (.int .i64 M.op) ∧ w8.cell? ⟨q, 4, none⟩ = some (.int .i64 0) ∧ w8.cell? ⟨q, 5, none⟩ = some (.string M.key) ∧ w8.cell? ⟨q, 6, none⟩ = some (.int .i64 0) ∧ w8.cell? ⟨q, 7, none⟩ = some (.int .i64 0) ∧ w8.cell? ⟨q, 8, none⟩ = some (.int .i64 0) ∧ w8.cell? ⟨q, 9, none⟩ = some (.int .i64 0) ∧ w8.cell? ⟨q, 10, none⟩ = some (.bool false) ∧ w8.cell? ⟨q, 11, none⟩ = some (.slice none 0 0) ∧ w8.cell? ⟨q, 12, none⟩ = some (.slice none 0 0) ∧ w8.cell? ⟨q, 13, none⟩ = some (.slice none 0 0) := ⟨cell_of_row _ _ 0 _ _ _ k8, cell_of_row _ _ 1 _ _ _ k8, cell_of_row _ _ 2 _ _ _ k8, cell_of_row _ _ 3 _ _ _ k8, cell_of_row _ _ 4 _ _ _ k8, cell_of_row _ _ 5 _ _ _ k8, cell_of_row _ _ 6 _ _ _ k8, cell_of_row _ _ 7 _ _ _ k8, cell_of_row _ _ 8 _ _ _ k8, cell_of_row _ _ 9 _ _ _ k8, cell_of_row _ _ 10 _ _ _ k8, cell_of_row _ _ 11 _ _ _ k8, cell_of_row _ _ 12 _ _ _ k8, cell_of_row _ _ 13 _ _ _ k8, cell_of_row _ _ 0 _ _ _ j8, cell_of_row _ _ 1 _ _ _ j8, cell_of_row _ _ 2 _ _ _ j8, cell_of_row _ _ 3 _ _ _ j8, cell_of_row _ _ 4 _ _ _ j8, cell_of_row _ _ 5 _ _ _ j8, cell_of_row _ _ 6 _ _ _ j8, cell_of_row _ _ 7 _ _ _ j8, cell_of_row _ _ 8 _ _ _ j8, cell_of_row _ _ 9 _ _ _ j8, cell_of_row _ _ 10 _ _ _ j8, cell_of_row _ _ 11 _ _ _ j8, cell_of_row _ _ 12 _ _ _ j8, cell_of_row _ _ 13 _ _ _ j8⟩
  clear bz KS
  refine hK.out _ _ P8 (fun _ => ?_)
  clear hK K
  refine GoX.take 5 rfl (by kernel_rfl) (by kernel_rfl) (by rfl) (fun _ _ _ h => h) (v := ?tv5g30) P8 ?ty5g30 ?tr5g30
  case ty5g30 => (intro w hSw; (try dsimp only at hSw); go_simp; first | done | with_reducible rfl)
  simp only [Act.put, List.setIfInBounds_toArray, List.set_cons_zero, List.set_cons_succ]
  refine GoX.take 6 rfl (by kernel_rfl) (by kernel_rfl) (by rfl) (fun _ _ _ h => h) (v := ?tv6g31) P8 ?ty6g31 ?tr6g31
  case ty6g31 => (intro w hSw; (try dsimp only at hSw); go_simp; first | done | with_reducible rfl)
  simp only [Act.put, List.setIfInBounds_toArray, List.set_cons_zero, List.set_cons_succ]
  refine GoX.take 7 rfl (by kernel_rfl) (by kernel_rfl) (by rfl) (fun _ _ _ h => h) (v := ?tv7g32) P8 ?ty7g32 ?tr7g32
  case ty7g32 => (intro w hSw; (try dsimp only at hSw); go_simp; first | done | with_reducible rfl)
  simp only [Act.put, List.setIfInBounds_toArray, List.set_cons_zero, List.set_cons_succ]
  refine GoX.take 9 rfl (by kernel_rfl) (by kernel_rfl) (by rfl) (fun _ _ _ h => h) (v := ?tv9g33) P8 ?ty9g33 ?tr9g33
  case ty9g33 => (intro w hSw; (try dsimp only at hSw); go_simp; first | done | with_reducible rfl)
  simp only [Act.put, List.setIfInBounds_toArray, List.set_cons_zero, List.set_cons_succ]
  refine GoX.one 8 rfl (by kernel_rfl) (by decide) (fun K hK => ?_)
  rw [if_pos (by rfl)]
  go_simp
  (with_reducible refine (KN1.out _ (HN.out.below B8.out)).mono ?_)
  rintro e' _ ⟨rfl, rfl⟩
  refine hK.out _ _ P8 (fun _ => ?_)
  clear hK K
  refine GoX.one 10 rfl (by kernel_rfl) (by decide) (fun K hK => ?_)
  rw [if_pos (by rfl)]
  go_simp
  (with_reducible refine (KN2.out _).mono ?_)
  rintro e' w9 ⟨rfl, bz⟩
  have k9 := (bz.block b (Array.getElem?_eq_some_iff.1 k8).1).trans k8
  have j9 := (bz.block q (Array.getElem?_eq_some_iff.1 j8).1).trans j8
  have B9 := Lib.hid (B8.out.trans (bz.mono B8.out.size))
  have P9 : w9.cell? ⟨b, 0, none⟩ = some (.int .i64 M.k) ∧ w9.cell? ⟨b, 1, none⟩ = some (.int .i64 M.f) ∧ w9.cell? ⟨b, 2, none⟩ = some (.int .i64 M.t) ∧ w9.cell? ⟨b, 3, none⟩ = some (.int .i64 M.op) ∧ w9.cell? ⟨b, 4, none⟩ = some (.int .i64 M.cd) ∧ w9.cell? ⟨b, 5, none⟩ = some (.string M.key) ∧ w9.cell? ⟨b, 6, none⟩ = some (.int .i64 M.m.N) ∧ w9.cell? ⟨b, 7, none⟩ = some (.int .i64 M.m.c) ∧ w9.cell? ⟨b, 8, none⟩ = some (.int .i64 M.m.s) ∧ w9.cell? ⟨b, 9, none⟩ = some (.int .i64 M.m.t) ∧ w9.cell? ⟨b, 10, none⟩ = some (.bool M.m.d) ∧ w9.cell? ⟨b, 11, none⟩ = some (.slice xa xn xc) ∧ w9.cell? ⟨b, 12, none⟩ = some (.slice sa M.sy.length sc) ∧ w9.cell? ⟨b, 13, none⟩ = some (.slice ia M.it.length ic) ∧ w9.cell? ⟨q, 0, none⟩ = some (.int .i64 k) ∧ w9.cell? ⟨q, 1, none⟩ = some (.int .i64 M.t) ∧ w9.cell? ⟨q, 2, none⟩ = some (.int .i64 M.f) ∧ w9.cell? ⟨q, 3, none⟩ = some (.int .i64 M.op) ∧ w9.cell? ⟨q, 4, none⟩ = some (.int .i64 0) ∧ w9.cell? ⟨q, 5, none⟩ = some (.string M.key) ∧ w9.cell? ⟨q, 6, none⟩ = some (.int .i64 0) ∧ w9.cell? ⟨q, 7, none⟩ = some (.int .i64 0) ∧ w9.cell? ⟨q, 8, none⟩ = some (.int .i64 0) ∧ w9.cell? ⟨q, 9, none⟩ = some (.int .i64 0) ∧ w9.cell? ⟨q, 10, none⟩ = some (.bool false) ∧ w9.cell? ⟨q, 11, none⟩ = some (.slice none 0 0) ∧ w9.cell? ⟨q, 12, none⟩ = some (.slice none 0 0) ∧ w9.cell? ⟨q, 13, none⟩ = some (.slice none 0 0) := ⟨cell_of_row _ _ 0 _ _ _ k9, cell_of_row _ _ 1 _ _ _ k9, cell_of_row _ _ 2 _ _ _ k9, cell_of_row _ _ 3 _ _ _ k9, cell_of_row _ _ 4 _ _ _ k9, cell_of_row _ _ 5 _ _ _ k9, cell_of_row _ _ 6 _ _ _ k9, cell_of_row _ _ 7 _ _ _ k9, cell_of_row _ _ 8 _ _ _ k9, cell_of_row _ _ 9 _ _ _ k9, cell_of_row _ _ 10 _ _ _ k9, cell_of_row _ _ 11 _ _ _ k9, cell_of_row _ _ 12 _ _ _ k9, cell_of_row _ _ 13 _ _ _ k9, cell_of_row _ _ 0 _ _ _ j9, cell_of_row _ _ 1 _ _ _ j9, cell_of_row _ _ 2 _ _ _ j9, cell_of_row _ _ 3 _ _ _ j9, cell_of_row _ _ 4 _ _ _ j9, cell_of_row _ _ 5 _ _ _ j9, cell_of_row _ _ 6 _ _ _ j9, cell_of_row _ _ 7 _ _ _ j9, cell_of_row _ _ 8 _ _ _ j9, cell_of_row _ _ 9 _ _ _ j9, cell_of_row _ _ 10 _ _ _ j9, cell_of_row _ _ 11 _ _ _ j9, cell_of_row _ _ 12 _ _ _ j9, cell_of_row _ _ 13 _ _ _ j9⟩
  clear bz KN2
  refine hK.out _ _ P9 (fun _ => ?_)
  clear hK K
  refine GoX.take 11 rfl (by kernel_rfl) (by kernel_rfl) (by rfl) (fun _ _ _ h => h) (v := ?tv11g34) P9 ?ty11g34 ?tr11g34
  case ty11g34 => (intro w hSw; (try dsimp only at hSw); go_simp; first | done | with_reducible rfl)
  simp only [Act.put, List.setIfInBounds_toArray, List.set_cons_zero, List.set_cons_succ]
  refine GoX.last 12 rfl (by kernel_rfl) (by kernel_rfl) (by decide) ?_
  rw [if_pos (by rfl)]
  go_simp
  clear P0 P7 P8 P9 k6 k7 k8 j6 j7 j8 hnn
  have K9 := Lib.hid k9
  have J9 := Lib.hid j9
  have KP : Calls Tryd.prog 21 #[.agg #[.int .i64 k, .int .i64 M.t, .int .i64 M.f, .int .i64 M.op, .int .i64 0, .string M.key, .int .i64 0, .int .i64 0, .int .i64 0, .int .i64 0, .bool false, .slice none 0 0, .slice none 0 0, .slice none 0 0], .int .i64 M.k] w9 fun e w' => e = .returned (.agg #[.int .i64 M.k, .int .i64 M.f, .int .i64 M.t, .int .i64 M.op, .int .i64 0, .string M.key, .int .i64 0, .int .i64 0, .int .i64 0, .int .i64 0, .bool false, .slice none 0 0, .slice none 0 0, .slice none 0 0]) ∧ Below w9.heap.size w9 w' := reply_any (replyM M k) (none, 0, 0) none 0 none 0 M.k w9
  clear k9 j9
  obtain ⟨⟨c0, c1, c2, c3, c4, c5, c6⟩, c7, c8, c9, c10, c11, c12, c13⟩ := cells14 K9.out
  obtain ⟨⟨d0, d1, d2, d3, d4, d5, d6⟩, d7, d8, d9, d10, d11, d12, d13⟩ := cells14 J9.out
  go_wp2_with fail
  (with_reducible refine KP.mono ?_)
  rintro e w10 ⟨rfl, b10⟩
  have k10 := (b10.block b (Array.getElem?_eq_some_iff.1 K9.out).1).trans K9.out
  have j10 := (b10.block q (Array.getElem?_eq_some_iff.1 J9.out).1).trans J9.out
  have bb10 := B9.out.trans (b10.mono B9.out.size)
  obtain ⟨p, hp⟩ : ∃ q, q = w10.heap.size := ⟨_, rfl⟩
  obtain ⟨w11, hw11⟩ : ∃ x, x = w10.alloc (.cells #[.int .i64 M.k, .int .i64 M.f, .int .i64 M.t, .int .i64 M.op, .int .i64 0, .string M.key, .int .i64 0, .int .i64 0, .int .i64 0, .int .i64 0, .bool false, .slice none 0 0, .slice none 0 0, .slice none 0 0] MMT) := ⟨_, rfl⟩
  have b11 : Below w10.heap.size w10 w11 := by rw [hw11]; exact below_alloc w10 _
  have i11 : w11.heap[p]? = some (.cells #[.int .i64 M.k, .int .i64 M.f, .int .i64 M.t, .int .i64 M.op, .int .i64 0, .string M.key, .int .i64 0, .int .i64 0, .int .i64 0, .int .i64 0, .bool false, .slice none 0 0, .slice none 0 0, .slice none 0 0] MMT (0, 0)) := by rw [hw11, hp]; exact heap_alloc_new w10 _
  have k11 := (b11.block b (Array.getElem?_eq_some_iff.1 k10).1).trans k10
  have j11 := (b11.block q (Array.getElem?_eq_some_iff.1 j10).1).trans j10
  have K11 := Lib.hid k11
  have J11 := Lib.hid j11
  have I11 := Lib.hid i11
  have B11 := Lib.hid (bb10.trans (b11.mono bb10.size))
  have HW11 := Lib.hid hw11
  have HP := Lib.hid hp
  clear KP c0 c1 c2 c3 c4 c5 c6 c7 c8 c9 c10 c11 c12 c13 d0 d1 d2 d3 d4 d5 d6 d7 d8 d9 d10 d11 d12 d13 b10 k10 j10 bb10 hp hw11 b11 k11 j11 i11
  go_upto_region 9 with fail
  rw [← HW11.out, ← HP.out]
  obtain ⟨⟨c0, c1, c2, c3, c4, c5, c6⟩, c7, c8, c9, c10, c11, c12, c13⟩ := cells14 K11.out
  obtain ⟨⟨d0, d1, d2, d3, d4, d5, d6⟩, d7, d8, d9, d10, d11, d12, d13⟩ := cells14 I11.out
  have hkk : (M.key.toList != M.key.toList) = false := by simp
  refine WL.start ?_
  refine WL.take (v := ?tv0p1) (by rfl) ?ty0p1 ?tr0p1
  case ty0p1 => (go_simp; first | done | with_reducible rfl)
  simp only [Act.put, List.setIfInBounds_toArray, List.set_cons_zero, List.set_cons_succ]
  refine WL.take (v := ?tv1p2) (by rfl) ?ty1p2 ?tr1p2
  case ty1p2 => (go_simp; first | done | with_reducible rfl)
  simp only [Act.put, List.setIfInBounds_toArray, List.set_cons_zero, List.set_cons_succ]
  refine WL.take (v := ?tv2p3) (by rfl) ?ty2p3 ?tr2p3
  case ty2p3 => (go_simp; first | done | with_reducible rfl)
  simp only [Act.put, List.setIfInBounds_toArray, List.set_cons_zero, List.set_cons_succ]
  refine WL.take (v := ?tv3p4) (by rfl) ?ty3p4 ?tr3p4
  case ty3p4 => (go_simp; first | done | with_reducible rfl)
  simp only [Act.put, List.setIfInBounds_toArray, List.set_cons_zero, List.set_cons_succ]
  refine WL.take (v := ?tv4p5) (by rfl) ?ty4p5 ?tr4p5
  case ty4p5 => (go_simp; first | done | with_reducible rfl)
  simp only [Act.put, List.setIfInBounds_toArray, List.set_cons_zero, List.set_cons_succ]
  refine WL.take (v := ?tv5p6) (by rfl) ?ty5p6 ?tr5p6
  case ty5p6 => (go_simp; first | done | with_reducible rfl)
  simp only [Act.put, List.setIfInBounds_toArray, List.set_cons_zero, List.set_cons_succ]
  refine WL.take (v := ?tv6p7) (by rfl) ?ty6p7 ?tr6p7
  case ty6p7 => (go_simp; first | done | with_reducible rfl)
  simp only [Act.put, List.setIfInBounds_toArray, List.set_cons_zero, List.set_cons_succ]
  refine WL.take (v := ?tv7p8) (by rfl) ?ty7p8 ?tr7p8
  case ty7p8 => (go_simp; first | done | with_reducible rfl)
  simp only [Act.put, List.setIfInBounds_toArray, List.set_cons_zero, List.set_cons_succ]
  refine WL.take (v := ?tv8p9) (by rfl) ?ty8p9 ?tr8p9
  case ty8p9 => (go_simp; first | done | with_reducible rfl)
  simp only [Act.put, List.setIfInBounds_toArray, List.set_cons_zero, List.set_cons_succ]
  refine WL.take (v := ?tv9p10) (by rfl) ?ty9p10 ?tr9p10
  case ty9p10 => (go_simp; first | done | with_reducible rfl)
  simp only [Act.put, List.setIfInBounds_toArray, List.set_cons_zero, List.set_cons_succ]
  refine WL.take (v := ?tv10p11) (by rfl) ?ty10p11 ?tr10p11
  case ty10p11 => (go_simp; first | done | with_reducible rfl)
  simp only [Act.put, List.setIfInBounds_toArray, List.set_cons_zero, List.set_cons_succ]
  refine WL.take (v := ?tv11p12) (by rfl) ?ty11p12 ?tr11p12
  case ty11p12 => (go_simp; first | done | with_reducible rfl)
  simp only [Act.put, List.setIfInBounds_toArray, List.set_cons_zero, List.set_cons_succ]
  refine WL.take (v := ?tv12p13) (by rfl) ?ty12p13 ?tr12p13
  case ty12p13 => (go_simp; first | done | with_reducible rfl)
  simp only [Act.put, List.setIfInBounds_toArray, List.set_cons_zero, List.set_cons_succ]
  refine WL.take (v := ?tv13p14) (by rfl) ?ty13p14 ?tr13p14
  case ty13p14 => (go_simp; first | done | with_reducible rfl)
  simp only [Act.put, List.setIfInBounds_toArray, List.set_cons_zero, List.set_cons_succ]
  refine WL.take (v := ?tv14p15) (by rfl) ?ty14p15 ?tr14p15
  case ty14p15 => (go_simp; first | done | with_reducible rfl)
  simp only [Act.put, List.setIfInBounds_toArray, List.set_cons_zero, List.set_cons_succ]
  refine WL.take (v := ?tv15p16) (by rfl) ?ty15p16 ?tr15p16
  case ty15p16 => (go_simp; first | done | with_reducible rfl)
  simp only [Act.put, List.setIfInBounds_toArray, List.set_cons_zero, List.set_cons_succ]
  refine WL.take (v := ?tv16p17) (by rfl) ?ty16p17 ?tr16p17
  case ty16p17 => (go_simp; first | done | with_reducible rfl)
  simp only [Act.put, List.setIfInBounds_toArray, List.set_cons_zero, List.set_cons_succ]
  refine WL.take (v := ?tv17p18) (by rfl) ?ty17p18 ?tr17p18
  case ty17p18 => (go_simp; first | done | with_reducible rfl)
  simp only [Act.put, List.setIfInBounds_toArray, List.set_cons_zero, List.set_cons_succ]
  refine WL.take (v := ?tv18p19) (by rfl) ?ty18p19 ?tr18p19
  case ty18p19 => (go_simp; first | done | with_reducible rfl)
  simp only [Act.put, List.setIfInBounds_toArray, List.set_cons_zero, List.set_cons_succ]
  refine WL.take (v := ?tv19p20) (by rfl) ?ty19p20 ?tr19p20
  case ty19p20 => (go_simp; first | done | with_reducible rfl)
  simp only [Act.put, List.setIfInBounds_toArray, List.set_cons_zero, List.set_cons_succ]
  refine WL.take (v := ?tv20p21) (by rfl) ?ty20p21 ?tr20p21
  case ty20p21 => (go_simp; first | done | with_reducible rfl)
  simp only [Act.put, List.setIfInBounds_toArray, List.set_cons_zero, List.set_cons_succ]
  refine WL.take (v := ?tv21p22) (by rfl) ?ty21p22 ?tr21p22
  case ty21p22 => (go_simp; first | done | with_reducible rfl)
  simp only [Act.put, List.setIfInBounds_toArray, List.set_cons_zero, List.set_cons_succ]
  refine WL.take (v := ?tv22p23) (by rfl) ?ty22p23 ?tr22p23
  case ty22p23 => (go_simp; first | done | with_reducible rfl)
  simp only [Act.put, List.setIfInBounds_toArray, List.set_cons_zero, List.set_cons_succ]
  refine WL.take (v := ?tv23p24) (by rfl) ?ty23p24 ?tr23p24
  case ty23p24 => (go_simp; first | done | with_reducible rfl)
  simp only [Act.put, List.setIfInBounds_toArray, List.set_cons_zero, List.set_cons_succ]
  refine WL.take (v := ?tv24p25) (by rfl) ?ty24p25 ?tr24p25
  case ty24p25 => (go_simp; first | done | with_reducible rfl)
  simp only [Act.put, List.setIfInBounds_toArray, List.set_cons_zero, List.set_cons_succ]
  refine WL.take (v := ?tv25p26) (by rfl) ?ty25p26 ?tr25p26
  case ty25p26 => (go_simp; first | done | with_reducible rfl)
  simp only [Act.put, List.setIfInBounds_toArray, List.set_cons_zero, List.set_cons_succ]
  refine WL.done ?_
  clear d0 d1 d2 d3 d4 d5 d6 d7 d8 d9 d10 d11 d12 d13 hkk
  have KC := copyMsg_any M (xa, xn, xc) sa sc ia ic w11 (HM.out.below B11.out) HS1.out HS2.out
  go_wp2_with fail
  (with_reducible refine KC.mono ?_)
  rintro e w12 ⟨⟨za, zn, zc⟩, ua, uc, va, vc, rfl, v12, b12⟩
  have J12 := Lib.hid ((b12.block q (Array.getElem?_eq_some_iff.1 J11.out).1).trans J11.out)
  have B12 := Lib.hid (B11.out.trans (b12.mono B11.out.size))
  have KK := check_anyM M (za, zn, zc) ua uc va vc w12 v12
  obtain ⟨CC, hCC⟩ : ∃ c, c = decide ((encM M).2 = 0) := ⟨_, rfl⟩
  rw [← hCC] at KK
  have HCC := Lib.hid hCC
  clear KC b12 v12 c0 c1 c2 c3 c4 c5 c6 c7 c8 c9 c10 c11 c12 c13 hCC
  go_wp2_with fail
  (with_reducible refine KK.mono ?_)
  rintro e w13 ⟨rfl, b13⟩
  have J13 := Lib.hid ((b13.block q (Array.getElem?_eq_some_iff.1 J12.out).1).trans J12.out)
  have B13 := Lib.hid (B12.out.trans (b13.mono B12.out.size))
  clear KK b13
  obtain ⟨⟨d0, d1, d2, d3, d4, d5, d6⟩, d7, d8, d9, d10, d11, d12, d13⟩ := cells14 J13.out
  cases CC with
  | false =>
    go_wp2
    go_ret
    exact ⟨rfl, B13.out⟩
  | true =>
    have KK : Calls Tryd.prog 15 #[.agg #[.int .i64 k, .int .i64 M.t, .int .i64 M.f, .int .i64 M.op, .int .i64 0, .string M.key, .int .i64 0, .int .i64 0, .int .i64 0, .int .i64 0, .bool false, .slice none 0 0, .slice none 0 0, .slice none 0 0]] w13 fun e w' => e = .returned (.bool (decide ((encM (replyM M k)).2 = 0))) ∧ Below w13.heap.size w13 w' := check_anyM (replyM M k) (none, 0, 0) none 0 none 0 w13 (reply_v M k w13)
    rw [reply_right HCC.out.symm] at KK
    have hne := nameR_ne k
    obtain ⟨DD, hDD⟩ : ∃ d, d = decide (1 ≤ k ∧ k ≤ 10) := ⟨_, rfl⟩
    rw [← hDD] at KK hne
    clear hDD
    rw [← HNM.out] at hne
    have HNE := Lib.hid hne
    clear hne
    go_wp2_with fail
    (with_reducible refine KK.mono ?_)
    rintro e w14 ⟨rfl, b14⟩
    have B14 := Lib.hid (B13.out.trans (b14.mono B13.out.size))
    have KN := KN1.out w14 (HN.out.below B14.out)
    clear KK b14 d0 d1 d2 d3 d4 d5 d6 d7 d8 d9 d10 d11 d12 d13 KN1
    go_wp2_with fail
    (with_reducible refine KN.mono ?_)
    rintro e w15 ⟨rfl, rfl⟩
    clear KN
    go_wp2
    go_ret
    exact ⟨by show Ending.returned (.bool (DD == (!nm.toList.isEmpty))) = .returned (.bool true); rw [HNE.out]; simp, B14.out⟩
end Go.Proofs.YtopnjjehefaghaaDoor
