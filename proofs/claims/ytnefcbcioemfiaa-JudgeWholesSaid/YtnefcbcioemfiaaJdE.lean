/-
  judge: complete, fits, follows.
-/
import Derived.Test.YtnefcbcioemfiaaJdD
namespace Go.Proofs.Ytnefcbcioemfiaa
open Go.RowKit

theorem two_boxes (w : World) (a b : Obj) : ((w.alloc a).alloc b).heap[w.heap.size]? = some a ∧ ((w.alloc a).alloc b).heap[w.heap.size + 1]? = some b ∧ Below w.heap.size w ((w.alloc a).alloc b) := by
  refine ⟨?_, ?_, (below_alloc w a).alloc (by simp) b⟩
  · rw [heap_alloc_old _ _ (by simp)]; exact heap_alloc_new _ _
  · have := heap_alloc_new (w.alloc a) b; simpa using this
theorem three_boxes (w : World) (a b c : Obj) : (((w.alloc a).alloc b).alloc c).heap[w.heap.size]? = some a ∧ (((w.alloc a).alloc b).alloc c).heap[w.heap.size + 1]? = some b ∧ (((w.alloc a).alloc b).alloc c).heap[w.heap.size + 2]? = some c ∧ Below w.heap.size w (((w.alloc a).alloc b).alloc c) := by
  obtain ⟨h1, h2, h3⟩ := two_boxes w a b
  refine ⟨?_, ?_, ?_, h3.alloc (by simp; omega) c⟩
  · rw [heap_alloc_old _ _ (by simp; omega)]; exact h1
  · rw [heap_alloc_old _ _ (by simp)]; exact h2
  · have := heap_alloc_new ((w.alloc a).alloc b) c; simpa using this
set_option maxRecDepth 100000 in
set_option maxHeartbeats 2000000 in
theorem complete_any (sb : Nat) (a : Option Addr) (n c mb : Nat) (A : List ActR) (T : Nat) (l : Int) (w : World) (h : SrA w sb a n c mb A) (hT : T < 2 ^ 64) :
    Calls Try.prog 47 #[PTR sb, StV T l] w fun e w' => e = .returned (.bool (completeB A T)) ∧ Below w.heap.size w w' := by
  obtain ⟨h0, h1, hb⟩ := two_boxes w (.cells #[PTR sb] 67) (.cells #[.int .u64 (T : Int), .int .i64 l] StT)
  have KA := anyC_any sb a n c mb A (w.heap.size + 1) w.heap.size (fun i => !T.testBit i && sureB (A.getD i dAct)) _ (h.below hb) (fun i W hi hW => must_any (w.heap.size + 1) w.heap.size sb a n c mb A T i l W ((h.below hb).below hW) (cellBelow (cell_of_row _ _ 0 _ _ _ h1) hW) (cellBelow (cell_of_row _ _ 1 _ _ _ h1) hW) (cellBelow (cell_of_row _ _ 0 _ _ _ h0) hW) hT hi)
  have hR : completeB A T = !((List.range n).any (fun i => !T.testBit i && sureB (A.getD i dAct))) := by rw [completeB, h.acts.len]
  rw [hR]
  obtain ⟨R, hR2⟩ : ∃ R, R = (List.range n).any (fun i => !T.testBit i && sureB (A.getD i dAct)) := ⟨_, rfl⟩
  rw [← hR2] at KA ⊢
  have HB := Lib.hid hb
  clear h hT h0 h1 hb hR hR2
  go_enter Try.func47, Try.ntmps47
  go_wp2_with fail
  (with_reducible refine KA.mono ?_)
  rintro e w6 ⟨rfl, hb6⟩
  have H6 := Lib.hid (HB.out.trans (hb6.mono HB.out.size))
  clear hb6 KA
  cases R
  all_goals
    go_wp2
    go_ret
    exact ⟨rfl, H6.out⟩
theorem fitsB_none {A : List ActR} {B : ActR} (h : B.d = 2) : fitsB A (-1) B = !B.found := by simp [fitsB, h]
theorem fitsB_some {A : List ActR} {B : ActR} {k : Nat} (h : B.d = 2) : fitsB A (k : Int) B = if (A.getD k dAct).d = 3 then !B.found else (B.found && decide (B.rval = (A.getD k dAct).val)) := by
  have hk : ¬ (k : Int) = -1 := by omega
  simp only [fitsB, h, if_true, hk, false_or, Int.toNat_natCast]
set_option maxRecDepth 100000 in
set_option maxHeartbeats 4000000 in
theorem fits_any (sb : Nat) (a : Option Addr) (n c mb : Nat) (A : List ActR) (l : Int) (B : ActR) (x y z : SH3) (w : World) (h : SrA w sb a n c mb A) (hl : l = -1 ∨ ∃ k : Nat, l = k ∧ k < n) (hS : ActS w B x y z) :
    Calls Try.prog 58 #[PTR sb, .int .i64 l, .agg (ActC B x y z)] w fun e w' => e = .returned (.bool (fitsB A l B)) ∧ Below w.heap.size w w' := by
  have hb := below_alloc w (.cells (ActC B x y z) ActT)
  have hnew := heap_alloc_new w (.cells (ActC B x y z) ActT)
  unfold ActC at hb hnew ⊢
  by_cases hd : B.d = 2
  · have e2 : (B.d != 2) = false := by simpa using hd
    rcases hl with rfl | ⟨k, rfl, hk⟩
    · rw [fitsB_none hd]
      clear hd hS h hnew
      go_enter Try.func58, Try.ntmps58
      go_wp2
      go_ret
      exact ⟨rfl, hb⟩
    · have hnc : n ≤ c := h.nc
      have h12 : n ≤ 12 := h.n12
      have hn1 : (k : Int) < (n : Int) := by omega
      have hk0 : (0 : Int) ≤ (k : Int) := by omega
      have ek : ((k : Int) == -1) = false := by simp
      rw [fitsB_some hd]
      obtain ⟨b, o, C, x2, y2, z2, rfl, -, hC, at_⟩ := h.acts.at hk
      rw [hC]
      have q0 := cellBelow h.c0 hb
      have a2 := at_.below hb
      have q1 := a2.c1
      have q5 := a2.c5
      have HS := Lib.hid (hS.below hb)
      have HC := Lib.hid a2.s
      clear h hC at_ a2 hS hd
      by_cases h3 : C.d = 3
      · have e3 : (C.d == 3) = true := by simpa using h3
        rw [if_pos h3]
        clear h3
        go_enter Try.func58, Try.ntmps58
        go_wp2
        go_ret
        exact ⟨rfl, hb⟩
      · have e3 : (C.d == 3) = false := by simpa using h3
        rw [if_neg h3]
        clear h3
        generalize hfd : B.found = fd at *
        have KQ := fun W (hW : Below (w.alloc (.cells #[.int .i64 B.cl, .int .i64 B.d, .int .i64 B.st, .int .i64 B.en, .string B.key, .slice x.1 x.2.1 x.2.2, .int .i64 B.rop, .int .i64 B.rdo, .string B.rkey, .slice y.1 y.2.1 y.2.2, .int .i64 B.tn, .int .i64 B.tc, .int .i64 B.code, .bool fd, .slice z.1 z.2.1 z.2.2] ActT)).heap.size (w.alloc (.cells #[.int .i64 B.cl, .int .i64 B.d, .int .i64 B.st, .int .i64 B.en, .string B.key, .slice x.1 x.2.1 x.2.2, .int .i64 B.rop, .int .i64 B.rdo, .string B.rkey, .slice y.1 y.2.1 y.2.2, .int .i64 B.tn, .int .i64 B.tc, .int .i64 B.code, .bool fd, .slice z.1 z.2.1 z.2.2] ActT)) W) => bytesEqual_anyJ y.1 y.2.1 y.2.2 B.rval x2.1 x2.2.1 x2.2.2 C.val W (HS.out.below hW).r (HC.out.below hW).v
        obtain ⟨E, hE⟩ : ∃ E, E = decide (B.rval = C.val) := ⟨_, rfl⟩
        rw [← hE] at KQ ⊢
        have HQ := Lib.hid KQ
        obtain ⟨e0, e1, e2', e3', e4, e5, e6, e7, e8, e9, ea, eb, ec, ed, ee, eF⟩ := cells15 hnew
        have HB := Lib.hid hb
        obtain ⟨y1, yn, yc⟩ := y
        obtain ⟨x1, xn, xc⟩ := x2
        simp only at e9 q5 HQ
        clear hE KQ hnew hb eF hfd
        cases fd
        · go_enter Try.func58, Try.ntmps58
          go_upto_region 5 with fail
          refine (?_ : ∀ W : World, (Hid (Below w.heap.size w W) ∧ Hid (∀ V, Below W.heap.size W V → Calls Try.prog 65 #[.slice y1 yn yc, .slice x1 xn xc] V fun e w' => e = .returned (.bool E) ∧ w' = V) ∧ W.cell? ⟨sb, 0, none⟩ = some (.slice (some ⟨b, o, none⟩) n c) ∧ W.cell? ⟨w.heap.size, 13, none⟩ = some (.bool false) ∧ W.cell? ⟨w.heap.size, 9, none⟩ = some (.slice y1 yn yc) ∧ W.cell? ⟨b, o + k * 15 + 5, none⟩ = some (.slice x1 xn xc)) → Code.wp Try.prog _ _ _ W) _ ⟨HB, HQ, q0, ed, e9, q5⟩
          clear HB HQ q0 ed e9 q5 q1 e0 e1 e2' e3' e4 e5 e6 e7 e8 ea eb ec ee
          rintro W ⟨HB, HQ, q0, ed, e9, q5⟩
          have P0 : (W.drew.cell? ⟨sb, 0, none⟩ = some (.slice (some ⟨b, o, none⟩) n c)) ∧ W.drew.cell? ⟨w.heap.size, 13, none⟩ = some (.bool false) ∧ W.drew.cell? ⟨w.heap.size, 9, none⟩ = some (.slice y1 yn yc) ∧ W.drew.cell? ⟨b, o + k * 15 + 5, none⟩ = some (.slice x1 xn xc) := ⟨q0, ed, e9, q5⟩
          refine GoX.start 17 (fun w' => (w'.cell? ⟨sb, 0, none⟩ = some (.slice (some ⟨b, o, none⟩) n c)) ∧ w'.cell? ⟨w.heap.size, 13, none⟩ = some (.bool false) ∧ w'.cell? ⟨w.heap.size, 9, none⟩ = some (.slice y1 yn yc) ∧ w'.cell? ⟨b, o + k * 15 + 5, none⟩ = some (.slice x1 xn xc)) (by kernel_rfl) ?_
          refine GoX.take 0 rfl (by kernel_rfl) (by kernel_rfl) (by rfl) (fun _ _ _ h => h) (v := ?tv0g23) P0 ?ty0g23 ?tr0g23
          case ty0g23 => (intro w hSw; (try dsimp only at hSw); go_simp; first | done | with_reducible rfl)
          simp only [Act.put, List.setIfInBounds_toArray, List.set_cons_zero, List.set_cons_succ]
          refine GoX.take 1 rfl (by kernel_rfl) (by kernel_rfl) (by rfl) (fun _ _ _ h => h) (v := ?tv1g24) P0 ?ty1g24 ?tr1g24
          case ty1g24 => (intro w hSw; (try dsimp only at hSw); go_simp; first | done | with_reducible rfl)
          simp only [Act.put, List.setIfInBounds_toArray, List.set_cons_zero, List.set_cons_succ]
          refine GoX.take 2 rfl (by kernel_rfl) (by kernel_rfl) (by rfl) (fun _ _ _ h => h) (v := ?tv2g25) P0 ?ty2g25 ?tr2g25
          case ty2g25 => (intro w hSw; (try dsimp only at hSw); go_simp; first | done | with_reducible rfl)
          simp only [Act.put, List.setIfInBounds_toArray, List.set_cons_zero, List.set_cons_succ]
          refine GoX.take 3 rfl (by kernel_rfl) (by kernel_rfl) (by rfl) (fun _ _ _ h => h) (v := ?tv3g26) P0 ?ty3g26 ?tr3g26
          case ty3g26 => (intro w hSw; (try dsimp only at hSw); go_simp; first | done | with_reducible rfl)
          simp only [Act.put, List.setIfInBounds_toArray, List.set_cons_zero, List.set_cons_succ]
          refine GoX.skip 4 rfl (by kernel_rfl) (by kernel_rfl) (by rfl) (fun _ _ _ h => h) P0 ?_
          simp only [Act.put, List.setIfInBounds_toArray, List.set_cons_zero, List.set_cons_succ]
          refine GoX.skip 5 rfl (by kernel_rfl) (by kernel_rfl) (by rfl) (fun _ _ _ h => h) P0 ?_
          simp only [Act.put, List.setIfInBounds_toArray, List.set_cons_zero, List.set_cons_succ]
          refine GoX.skip 6 rfl (by kernel_rfl) (by kernel_rfl) (by rfl) (fun _ _ _ h => h) P0 ?_
          simp only [Act.put, List.setIfInBounds_toArray, List.set_cons_zero, List.set_cons_succ]
          refine GoX.skip 7 rfl (by kernel_rfl) (by kernel_rfl) (by rfl) (fun _ _ _ h => h) P0 ?_
          simp only [Act.put, List.setIfInBounds_toArray, List.set_cons_zero, List.set_cons_succ]
          refine GoX.skip 8 rfl (by kernel_rfl) (by kernel_rfl) (by rfl) (fun _ _ _ h => h) P0 ?_
          simp only [Act.put, List.setIfInBounds_toArray, List.set_cons_zero, List.set_cons_succ]
          refine GoX.skip 9 rfl (by kernel_rfl) (by kernel_rfl) (by rfl) (fun _ _ _ h => h) P0 ?_
          simp only [Act.put, List.setIfInBounds_toArray, List.set_cons_zero, List.set_cons_succ]
          refine GoX.skip 10 rfl (by kernel_rfl) (by kernel_rfl) (by rfl) (fun _ _ _ h => h) P0 ?_
          simp only [Act.put, List.setIfInBounds_toArray, List.set_cons_zero, List.set_cons_succ]
          refine GoX.skip 11 rfl (by kernel_rfl) (by kernel_rfl) (by rfl) (fun _ _ _ h => h) P0 ?_
          simp only [Act.put, List.setIfInBounds_toArray, List.set_cons_zero, List.set_cons_succ]
          refine GoX.skip 12 rfl (by kernel_rfl) (by kernel_rfl) (by rfl) (fun _ _ _ h => h) P0 ?_
          simp only [Act.put, List.setIfInBounds_toArray, List.set_cons_zero, List.set_cons_succ]
          refine GoX.skip 13 rfl (by kernel_rfl) (by kernel_rfl) (by rfl) (fun _ _ _ h => h) P0 ?_
          simp only [Act.put, List.setIfInBounds_toArray, List.set_cons_zero, List.set_cons_succ]
          refine GoX.skip 14 rfl (by kernel_rfl) (by kernel_rfl) (by rfl) (fun _ _ _ h => h) P0 ?_
          simp only [Act.put, List.setIfInBounds_toArray, List.set_cons_zero, List.set_cons_succ]
          refine GoX.skip 15 rfl (by kernel_rfl) (by kernel_rfl) (by rfl) (fun _ _ _ h => h) P0 ?_
          simp only [Act.put, List.setIfInBounds_toArray, List.set_cons_zero, List.set_cons_succ]
          refine GoX.take 16 rfl (by kernel_rfl) (by kernel_rfl) (by rfl) (fun _ _ _ h => h) (v := ?tv16g27) P0 ?ty16g27 ?tr16g27
          case ty16g27 => (intro w hSw; (try dsimp only at hSw); go_simp; first | done | with_reducible rfl)
          simp only [Act.put, List.setIfInBounds_toArray, List.set_cons_zero, List.set_cons_succ]
          refine GoX.last 17 rfl (by kernel_rfl) (by kernel_rfl) (by decide) ?_
          go_wp2
          go_ret
          exact ⟨rfl, HB.out.drew⟩
        · go_enter Try.func58, Try.ntmps58
          go_upto_region 5 with fail
          refine (?_ : ∀ W : World, (Hid (Below w.heap.size w W) ∧ Hid (∀ V, Below W.heap.size W V → Calls Try.prog 65 #[.slice y1 yn yc, .slice x1 xn xc] V fun e w' => e = .returned (.bool E) ∧ w' = V) ∧ W.cell? ⟨sb, 0, none⟩ = some (.slice (some ⟨b, o, none⟩) n c) ∧ W.cell? ⟨w.heap.size, 13, none⟩ = some (.bool true) ∧ W.cell? ⟨w.heap.size, 9, none⟩ = some (.slice y1 yn yc) ∧ W.cell? ⟨b, o + k * 15 + 5, none⟩ = some (.slice x1 xn xc)) → Code.wp Try.prog _ _ _ W) _ ⟨HB, HQ, q0, ed, e9, q5⟩
          clear HB HQ q0 ed e9 q5 q1 e0 e1 e2' e3' e4 e5 e6 e7 e8 ea eb ec ee
          rintro W ⟨HB, HQ, q0, ed, e9, q5⟩
          have P0 : (W.drew.cell? ⟨sb, 0, none⟩ = some (.slice (some ⟨b, o, none⟩) n c)) ∧ W.drew.cell? ⟨w.heap.size, 13, none⟩ = some (.bool true) ∧ W.drew.cell? ⟨w.heap.size, 9, none⟩ = some (.slice y1 yn yc) ∧ W.drew.cell? ⟨b, o + k * 15 + 5, none⟩ = some (.slice x1 xn xc) := ⟨q0, ed, e9, q5⟩
          refine GoX.start 17 (fun w' => (w'.cell? ⟨sb, 0, none⟩ = some (.slice (some ⟨b, o, none⟩) n c)) ∧ w'.cell? ⟨w.heap.size, 13, none⟩ = some (.bool true) ∧ w'.cell? ⟨w.heap.size, 9, none⟩ = some (.slice y1 yn yc) ∧ w'.cell? ⟨b, o + k * 15 + 5, none⟩ = some (.slice x1 xn xc)) (by kernel_rfl) ?_
          refine GoX.take 0 rfl (by kernel_rfl) (by kernel_rfl) (by rfl) (fun _ _ _ h => h) (v := ?tv0g28) P0 ?ty0g28 ?tr0g28
          case ty0g28 => (intro w hSw; (try dsimp only at hSw); go_simp; first | done | with_reducible rfl)
          simp only [Act.put, List.setIfInBounds_toArray, List.set_cons_zero, List.set_cons_succ]
          refine GoX.take 1 rfl (by kernel_rfl) (by kernel_rfl) (by rfl) (fun _ _ _ h => h) (v := ?tv1g29) P0 ?ty1g29 ?tr1g29
          case ty1g29 => (intro w hSw; (try dsimp only at hSw); go_simp; first | done | with_reducible rfl)
          simp only [Act.put, List.setIfInBounds_toArray, List.set_cons_zero, List.set_cons_succ]
          refine GoX.take 2 rfl (by kernel_rfl) (by kernel_rfl) (by rfl) (fun _ _ _ h => h) (v := ?tv2g30) P0 ?ty2g30 ?tr2g30
          case ty2g30 => (intro w hSw; (try dsimp only at hSw); go_simp; first | done | with_reducible rfl)
          simp only [Act.put, List.setIfInBounds_toArray, List.set_cons_zero, List.set_cons_succ]
          refine GoX.take 3 rfl (by kernel_rfl) (by kernel_rfl) (by rfl) (fun _ _ _ h => h) (v := ?tv3g31) P0 ?ty3g31 ?tr3g31
          case ty3g31 => (intro w hSw; (try dsimp only at hSw); go_simp; first | done | with_reducible rfl)
          simp only [Act.put, List.setIfInBounds_toArray, List.set_cons_zero, List.set_cons_succ]
          refine GoX.take 4 rfl (by kernel_rfl) (by kernel_rfl) (by rfl) (fun _ _ _ h => h) (v := ?tv4g32) P0 ?ty4g32 ?tr4g32
          case ty4g32 => (intro w hSw; (try dsimp only at hSw); go_simp; first | done | with_reducible rfl)
          simp only [Act.put, List.setIfInBounds_toArray, List.set_cons_zero, List.set_cons_succ]
          refine GoX.take 5 rfl (by kernel_rfl) (by kernel_rfl) (by rfl) (fun _ _ _ h => h) (v := ?tv5g33) P0 ?ty5g33 ?tr5g33
          case ty5g33 => (intro w hSw; (try dsimp only at hSw); go_simp; first | done | with_reducible rfl)
          simp only [Act.put, List.setIfInBounds_toArray, List.set_cons_zero, List.set_cons_succ]
          refine GoX.take 6 rfl (by kernel_rfl) (by kernel_rfl) (by rfl) (fun _ _ _ h => h) (v := ?tv6g34) P0 ?ty6g34 ?tr6g34
          case ty6g34 => (intro w hSw; (try dsimp only at hSw); go_simp; first | done | with_reducible rfl)
          simp only [Act.put, List.setIfInBounds_toArray, List.set_cons_zero, List.set_cons_succ]
          refine GoX.take 7 rfl (by kernel_rfl) (by kernel_rfl) (by rfl) (fun _ _ _ h => h) (v := ?tv7g35) P0 ?ty7g35 ?tr7g35
          case ty7g35 => (intro w hSw; (try dsimp only at hSw); go_simp; first | done | with_reducible rfl)
          simp only [Act.put, List.setIfInBounds_toArray, List.set_cons_zero, List.set_cons_succ]
          refine GoX.take 8 rfl (by kernel_rfl) (by kernel_rfl) (by rfl) (fun _ _ _ h => h) (v := ?tv8g36) P0 ?ty8g36 ?tr8g36
          case ty8g36 => (intro w hSw; (try dsimp only at hSw); go_simp; first | done | with_reducible rfl)
          simp only [Act.put, List.setIfInBounds_toArray, List.set_cons_zero, List.set_cons_succ]
          refine GoX.take 9 rfl (by kernel_rfl) (by kernel_rfl) (by rfl) (fun _ _ _ h => h) (v := ?tv9g37) P0 ?ty9g37 ?tr9g37
          case ty9g37 => (intro w hSw; (try dsimp only at hSw); go_simp; first | done | with_reducible rfl)
          simp only [Act.put, List.setIfInBounds_toArray, List.set_cons_zero, List.set_cons_succ]
          refine GoX.take 10 rfl (by kernel_rfl) (by kernel_rfl) (by rfl) (fun _ _ _ h => h) (v := ?tv10g38) P0 ?ty10g38 ?tr10g38
          case ty10g38 => (intro w hSw; (try dsimp only at hSw); go_simp; first | done | with_reducible rfl)
          simp only [Act.put, List.setIfInBounds_toArray, List.set_cons_zero, List.set_cons_succ]
          refine GoX.take 11 rfl (by kernel_rfl) (by kernel_rfl) (by rfl) (fun _ _ _ h => h) (v := ?tv11g39) P0 ?ty11g39 ?tr11g39
          case ty11g39 => (intro w hSw; (try dsimp only at hSw); go_simp; first | done | with_reducible rfl)
          simp only [Act.put, List.setIfInBounds_toArray, List.set_cons_zero, List.set_cons_succ]
          refine GoX.take 12 rfl (by kernel_rfl) (by kernel_rfl) (by rfl) (fun _ _ _ h => h) (v := ?tv12g40) P0 ?ty12g40 ?tr12g40
          case ty12g40 => (intro w hSw; (try dsimp only at hSw); go_simp; first | done | with_reducible rfl)
          simp only [Act.put, List.setIfInBounds_toArray, List.set_cons_zero, List.set_cons_succ]
          refine GoX.take 13 rfl (by kernel_rfl) (by kernel_rfl) (by rfl) (fun _ _ _ h => h) (v := ?tv13g41) P0 ?ty13g41 ?tr13g41
          case ty13g41 => (intro w hSw; (try dsimp only at hSw); go_simp; first | done | with_reducible rfl)
          simp only [Act.put, List.setIfInBounds_toArray, List.set_cons_zero, List.set_cons_succ]
          refine GoX.take 14 rfl (by kernel_rfl) (by kernel_rfl) (by rfl) (fun _ _ _ h => h) (v := ?tv14g42) P0 ?ty14g42 ?tr14g42
          case ty14g42 => (intro w hSw; (try dsimp only at hSw); go_simp; first | done | with_reducible rfl)
          simp only [Act.put, List.setIfInBounds_toArray, List.set_cons_zero, List.set_cons_succ]
          refine GoX.one 15 rfl (by kernel_rfl) (by decide) (fun K hK => ?_)
          rw [if_pos (by rfl)]
          go_simp
          (with_reducible refine (HQ.out _ (show Below W.heap.size W W.drew from (Below.refl _ _).drew)).mono ?_)
          rintro e w2 ⟨rfl, rfl⟩
          refine hK.out _ _ P0 (fun _ => ?_)
          clear hK K
          refine GoX.take 16 rfl (by kernel_rfl) (by kernel_rfl) (by rfl) (fun _ _ _ h => h) (v := ?tv16g43) P0 ?ty16g43 ?tr16g43
          case ty16g43 => (intro w hSw; (try dsimp only at hSw); go_simp; first | done | with_reducible rfl)
          simp only [Act.put, List.setIfInBounds_toArray, List.set_cons_zero, List.set_cons_succ]
          refine GoX.last 17 rfl (by kernel_rfl) (by kernel_rfl) (by decide) ?_
          go_wp2
          go_ret
          exact ⟨rfl, HB.out.drew⟩
  · have e2 : (B.d != 2) = true := by simpa using hd
    have hR : fitsB A l B = true := by simp [fitsB, hd]
    rw [hR]
    clear hd hR hl hS h hnew
    go_enter Try.func58, Try.ntmps58
    go_wp2
    go_ret
    exact ⟨rfl, hb⟩
theorem followsB_n {A : List ActR} {n T i : Nat} {l : Int} (h : A.length = n) : followsB A T l i = (!T.testBit i && !((List.range n).any fun j => T.testBit j && beforeB (A.getD i dAct) (A.getD j dAct)) && fitsB A l (A.getD i dAct)) := by rw [← h]; rfl
set_option maxRecDepth 100000 in
set_option maxHeartbeats 8000000 in
theorem follows_any (sb : Nat) (a : Option Addr) (n c mb : Nat) (A : List ActR) (T i : Nat) (l : Int) (w : World) (h : SrA w sb a n c mb A) (hl : l = -1 ∨ ∃ k : Nat, l = k ∧ k < n) (hT : T < 2 ^ 64) (hi : i < n) :
    Calls Try.prog 45 #[PTR sb, StV T l, .int .i64 (i : Int)] w fun e w' => e = .returned (.bool (followsB A T l i)) ∧ Below w.heap.size w w' := by
  have hnc : n ≤ c := h.nc
  have h12 : n ≤ 12 := h.n12
  have hn1 : (i : Int) < (n : Int) := by omega
  have hi0 : (0 : Int) ≤ (i : Int) := by omega
  rw [followsB_n h.acts.len]
  obtain ⟨t0, t1, t2, hb⟩ := three_boxes w (.cells #[PTR sb] 67) (.cells #[.int .u64 (T : Int), .int .i64 l] StT) (.cells #[.int .i64 (i : Int)] 3)
  have s0 := cell_of_row _ _ 0 _ _ _ t0
  have n0 := cell_of_row _ _ 0 _ _ _ t1
  have n1 := cell_of_row _ _ 1 _ _ _ t1
  have i0 := cell_of_row _ _ 0 _ _ _ t2
  simp at s0 n0 n1 i0
  have h' := h.below hb
  clear t0 t1 t2
  obtain ⟨b, o, B, x, y, z, rfl, -, hB, at_⟩ := h'.acts.at hi
  rw [hB]
  obtain ⟨t, ht⟩ : ∃ t, t = T.testBit i := ⟨_, rfl⟩
  obtain ⟨L, hL⟩ : ∃ L, L = (List.range n).any fun j => T.testBit j && beforeB B (A.getD j dAct) := ⟨_, rfl⟩
  obtain ⟨F, hF⟩ : ∃ F, F = fitsB A l B := ⟨_, rfl⟩
  rw [← ht, ← hL, ← hF]
  have KH := fun W => has_any T i l W hT (by omega)
  rw [← ht] at KH
  have KA : ∀ W, Below (((w.alloc (.cells #[PTR sb] 67)).alloc (.cells #[.int .u64 (T : Int), .int .i64 l] StT)).alloc (.cells #[.int .i64 (i : Int)] 3)).heap.size (((w.alloc (.cells #[PTR sb] 67)).alloc (.cells #[.int .u64 (T : Int), .int .i64 l] StT)).alloc (.cells #[.int .i64 (i : Int)] 3)) W → Calls Try.prog 57 #[PTR sb, .func (.func 54) #[] #[PTR (w.heap.size + 1), PTR w.heap.size, PTR (w.heap.size + 2)]] W fun e w' => e = .returned (.bool L) ∧ Below W.heap.size W w' := by
    intro W hW
    have := anyF_any sb (some ⟨b, o, none⟩) n c mb A (w.heap.size + 1) w.heap.size (w.heap.size + 2) (fun j => T.testBit j && beforeB B (A.getD j dAct)) W (h'.below hW) (fun j V hj hV => by
      have := late_any (w.heap.size + 1) w.heap.size (w.heap.size + 2) sb (some ⟨b, o, none⟩) n c mb A T i j l V ((h'.below hW).below hV) (cellBelow (cellBelow n0 hW) hV) (cellBelow (cellBelow n1 hW) hV) (cellBelow (cellBelow s0 hW) hV) (cellBelow (cellBelow i0 hW) hV) hT hi hj
      rw [hB] at this
      exact this)
    rw [← hL] at this
    exact this
  have KF : ∀ W, Below (((w.alloc (.cells #[PTR sb] 67)).alloc (.cells #[.int .u64 (T : Int), .int .i64 l] StT)).alloc (.cells #[.int .i64 (i : Int)] 3)).heap.size (((w.alloc (.cells #[PTR sb] 67)).alloc (.cells #[.int .u64 (T : Int), .int .i64 l] StT)).alloc (.cells #[.int .i64 (i : Int)] 3)) W → Calls Try.prog 58 #[PTR sb, .int .i64 l, .agg (ActC B x y z)] W fun e w' => e = .returned (.bool F) ∧ Below W.heap.size W w' := by
    intro W hW
    rw [hF]
    exact fits_any sb (some ⟨b, o, none⟩) n c mb A l B x y z W (h'.below hW) hl (at_.s.below hW)
  unfold ActC at KF
  have q0 := h'.c0
  obtain ⟨e0, e1, e2, e3, e4, e5, e6, e7, e8, e9, ea, eb, ec, ed, ee, -⟩ := at_
  have HB := Lib.hid hb
  have HKA := Lib.hid KA
  have HKF := Lib.hid KF
  have HKH := Lib.hid KH
  clear h h' hl hT hB ht hL hF KA KF KH hb
  cases t
  · cases L
    · go_enter Try.func45, Try.ntmps45
      go_upto_region 2 with fail
      refine (?_ : ∀ W : World, (Hid (Below w.heap.size w W) ∧ Hid (∀ V, Below W.heap.size W V → Calls Try.prog 57 #[PTR sb, .func (.func 54) #[] #[PTR (w.heap.size + 1), PTR w.heap.size, PTR (w.heap.size + 2)]] V fun e w' => e = .returned (.bool false) ∧ Below V.heap.size V w') ∧ Hid (∀ V, Below W.heap.size W V → Calls Try.prog 58 #[PTR sb, .int .i64 l, .agg #[.int .i64 B.cl, .int .i64 B.d, .int .i64 B.st, .int .i64 B.en, .string B.key, .slice x.1 x.2.1 x.2.2, .int .i64 B.rop, .int .i64 B.rdo, .string B.rkey, .slice y.1 y.2.1 y.2.2, .int .i64 B.tn, .int .i64 B.tc, .int .i64 B.code, .bool B.found, .slice z.1 z.2.1 z.2.2]] V fun e w' => e = .returned (.bool F) ∧ Below V.heap.size V w') ∧ W.cell? ⟨w.heap.size, 0, none⟩ = some (PTR sb) ∧ W.cell? ⟨w.heap.size + 1, 0, none⟩ = some (.int .u64 (T : Int)) ∧ W.cell? ⟨w.heap.size + 1, 1, none⟩ = some (.int .i64 l) ∧ W.cell? ⟨w.heap.size + 2, 0, none⟩ = some (.int .i64 (i : Int)) ∧ W.cell? ⟨sb, 0, none⟩ = some (.slice (some ⟨b, o, none⟩) n c) ∧ W.cell? ⟨b, o + i * 15, none⟩ = some (.int .i64 B.cl) ∧ W.cell? ⟨b, o + i * 15 + 1, none⟩ = some (.int .i64 B.d) ∧ W.cell? ⟨b, o + i * 15 + 2, none⟩ = some (.int .i64 B.st) ∧ W.cell? ⟨b, o + i * 15 + 3, none⟩ = some (.int .i64 B.en) ∧ W.cell? ⟨b, o + i * 15 + 4, none⟩ = some (.string B.key) ∧ W.cell? ⟨b, o + i * 15 + 5, none⟩ = some (.slice x.1 x.2.1 x.2.2) ∧ W.cell? ⟨b, o + i * 15 + 6, none⟩ = some (.int .i64 B.rop) ∧ W.cell? ⟨b, o + i * 15 + 7, none⟩ = some (.int .i64 B.rdo) ∧ W.cell? ⟨b, o + i * 15 + 8, none⟩ = some (.string B.rkey) ∧ W.cell? ⟨b, o + i * 15 + 9, none⟩ = some (.slice y.1 y.2.1 y.2.2) ∧ W.cell? ⟨b, o + i * 15 + 10, none⟩ = some (.int .i64 B.tn) ∧ W.cell? ⟨b, o + i * 15 + 11, none⟩ = some (.int .i64 B.tc) ∧ W.cell? ⟨b, o + i * 15 + 12, none⟩ = some (.int .i64 B.code) ∧ W.cell? ⟨b, o + i * 15 + 13, none⟩ = some (.bool B.found) ∧ W.cell? ⟨b, o + i * 15 + 14, none⟩ = some (.slice z.1 z.2.1 z.2.2)) → Code.wp Try.prog _ _ _ W) _ ⟨HB, HKA, HKF, s0, n0, n1, i0, q0, e0, e1, e2, e3, e4, e5, e6, e7, e8, e9, ea, eb, ec, ed, ee⟩
      clear HB HKA HKF s0 n0 n1 i0 q0 e0 e1 e2 e3 e4 e5 e6 e7 e8 e9 ea eb ec ed ee
      rintro W ⟨HB, HKA, HKF, s0, n0, n1, i0, q0, e0, e1, e2, e3, e4, e5, e6, e7, e8, e9, ea, eb, ec, ed, ee⟩
      have P0 : W.drew.cell? ⟨w.heap.size, 0, none⟩ = some (PTR sb) ∧ W.drew.cell? ⟨w.heap.size + 1, 0, none⟩ = some (.int .u64 (T : Int)) ∧ W.drew.cell? ⟨w.heap.size + 1, 1, none⟩ = some (.int .i64 l) ∧ W.drew.cell? ⟨w.heap.size + 2, 0, none⟩ = some (.int .i64 (i : Int)) ∧ W.drew.cell? ⟨sb, 0, none⟩ = some (.slice (some ⟨b, o, none⟩) n c) ∧ W.drew.cell? ⟨b, o + i * 15, none⟩ = some (.int .i64 B.cl) ∧ W.drew.cell? ⟨b, o + i * 15 + 1, none⟩ = some (.int .i64 B.d) ∧ W.drew.cell? ⟨b, o + i * 15 + 2, none⟩ = some (.int .i64 B.st) ∧ W.drew.cell? ⟨b, o + i * 15 + 3, none⟩ = some (.int .i64 B.en) ∧ W.drew.cell? ⟨b, o + i * 15 + 4, none⟩ = some (.string B.key) ∧ W.drew.cell? ⟨b, o + i * 15 + 5, none⟩ = some (.slice x.1 x.2.1 x.2.2) ∧ W.drew.cell? ⟨b, o + i * 15 + 6, none⟩ = some (.int .i64 B.rop) ∧ W.drew.cell? ⟨b, o + i * 15 + 7, none⟩ = some (.int .i64 B.rdo) ∧ W.drew.cell? ⟨b, o + i * 15 + 8, none⟩ = some (.string B.rkey) ∧ W.drew.cell? ⟨b, o + i * 15 + 9, none⟩ = some (.slice y.1 y.2.1 y.2.2) ∧ W.drew.cell? ⟨b, o + i * 15 + 10, none⟩ = some (.int .i64 B.tn) ∧ W.drew.cell? ⟨b, o + i * 15 + 11, none⟩ = some (.int .i64 B.tc) ∧ W.drew.cell? ⟨b, o + i * 15 + 12, none⟩ = some (.int .i64 B.code) ∧ W.drew.cell? ⟨b, o + i * 15 + 13, none⟩ = some (.bool B.found) ∧ W.drew.cell? ⟨b, o + i * 15 + 14, none⟩ = some (.slice z.1 z.2.1 z.2.2) := ⟨s0, n0, n1, i0, q0, e0, e1, e2, e3, e4, e5, e6, e7, e8, e9, ea, eb, ec, ed, ee⟩
      have BD : Hid (Below W.heap.size W W.drew) := Lib.hid (Below.refl _ _).drew
      refine GoX.start 23 (fun w' => w'.cell? ⟨w.heap.size, 0, none⟩ = some (PTR sb) ∧ w'.cell? ⟨w.heap.size + 1, 0, none⟩ = some (.int .u64 (T : Int)) ∧ w'.cell? ⟨w.heap.size + 1, 1, none⟩ = some (.int .i64 l) ∧ w'.cell? ⟨w.heap.size + 2, 0, none⟩ = some (.int .i64 (i : Int)) ∧ w'.cell? ⟨sb, 0, none⟩ = some (.slice (some ⟨b, o, none⟩) n c) ∧ w'.cell? ⟨b, o + i * 15, none⟩ = some (.int .i64 B.cl) ∧ w'.cell? ⟨b, o + i * 15 + 1, none⟩ = some (.int .i64 B.d) ∧ w'.cell? ⟨b, o + i * 15 + 2, none⟩ = some (.int .i64 B.st) ∧ w'.cell? ⟨b, o + i * 15 + 3, none⟩ = some (.int .i64 B.en) ∧ w'.cell? ⟨b, o + i * 15 + 4, none⟩ = some (.string B.key) ∧ w'.cell? ⟨b, o + i * 15 + 5, none⟩ = some (.slice x.1 x.2.1 x.2.2) ∧ w'.cell? ⟨b, o + i * 15 + 6, none⟩ = some (.int .i64 B.rop) ∧ w'.cell? ⟨b, o + i * 15 + 7, none⟩ = some (.int .i64 B.rdo) ∧ w'.cell? ⟨b, o + i * 15 + 8, none⟩ = some (.string B.rkey) ∧ w'.cell? ⟨b, o + i * 15 + 9, none⟩ = some (.slice y.1 y.2.1 y.2.2) ∧ w'.cell? ⟨b, o + i * 15 + 10, none⟩ = some (.int .i64 B.tn) ∧ w'.cell? ⟨b, o + i * 15 + 11, none⟩ = some (.int .i64 B.tc) ∧ w'.cell? ⟨b, o + i * 15 + 12, none⟩ = some (.int .i64 B.code) ∧ w'.cell? ⟨b, o + i * 15 + 13, none⟩ = some (.bool B.found) ∧ w'.cell? ⟨b, o + i * 15 + 14, none⟩ = some (.slice z.1 z.2.1 z.2.2)) (by kernel_rfl) ?_
      refine GoX.take 0 rfl (by kernel_rfl) (by kernel_rfl) (by rfl) (fun _ _ _ h => h) (v := ?tv0g44) P0 ?ty0g44 ?tr0g44
      case ty0g44 => (intro w hSw; (try dsimp only at hSw); go_simp; first | done | with_reducible rfl)
      simp only [Act.put, List.setIfInBounds_toArray, List.set_cons_zero, List.set_cons_succ]
      refine GoX.take 1 rfl (by kernel_rfl) (by kernel_rfl) (by rfl) (fun _ _ _ h => h) (v := ?tv1g45) P0 ?ty1g45 ?tr1g45
      case ty1g45 => (intro w hSw; (try dsimp only at hSw); go_simp; first | done | with_reducible rfl)
      simp only [Act.put, List.setIfInBounds_toArray, List.set_cons_zero, List.set_cons_succ]
      refine GoX.one 2 rfl (by kernel_rfl) (by decide) (fun K hK => ?_)
      rw [if_pos (by rfl)]
      go_simp
      (with_reducible refine (HKH.out _).mono ?_)
      rintro e w2 ⟨rfl, hb1⟩
      have P1 : w2.cell? ⟨w.heap.size, 0, none⟩ = some (PTR sb) ∧ w2.cell? ⟨w.heap.size + 1, 0, none⟩ = some (.int .u64 (T : Int)) ∧ w2.cell? ⟨w.heap.size + 1, 1, none⟩ = some (.int .i64 l) ∧ w2.cell? ⟨w.heap.size + 2, 0, none⟩ = some (.int .i64 (i : Int)) ∧ w2.cell? ⟨sb, 0, none⟩ = some (.slice (some ⟨b, o, none⟩) n c) ∧ w2.cell? ⟨b, o + i * 15, none⟩ = some (.int .i64 B.cl) ∧ w2.cell? ⟨b, o + i * 15 + 1, none⟩ = some (.int .i64 B.d) ∧ w2.cell? ⟨b, o + i * 15 + 2, none⟩ = some (.int .i64 B.st) ∧ w2.cell? ⟨b, o + i * 15 + 3, none⟩ = some (.int .i64 B.en) ∧ w2.cell? ⟨b, o + i * 15 + 4, none⟩ = some (.string B.key) ∧ w2.cell? ⟨b, o + i * 15 + 5, none⟩ = some (.slice x.1 x.2.1 x.2.2) ∧ w2.cell? ⟨b, o + i * 15 + 6, none⟩ = some (.int .i64 B.rop) ∧ w2.cell? ⟨b, o + i * 15 + 7, none⟩ = some (.int .i64 B.rdo) ∧ w2.cell? ⟨b, o + i * 15 + 8, none⟩ = some (.string B.rkey) ∧ w2.cell? ⟨b, o + i * 15 + 9, none⟩ = some (.slice y.1 y.2.1 y.2.2) ∧ w2.cell? ⟨b, o + i * 15 + 10, none⟩ = some (.int .i64 B.tn) ∧ w2.cell? ⟨b, o + i * 15 + 11, none⟩ = some (.int .i64 B.tc) ∧ w2.cell? ⟨b, o + i * 15 + 12, none⟩ = some (.int .i64 B.code) ∧ w2.cell? ⟨b, o + i * 15 + 13, none⟩ = some (.bool B.found) ∧ w2.cell? ⟨b, o + i * 15 + 14, none⟩ = some (.slice z.1 z.2.1 z.2.2) := ⟨cellBelow (w := W.drew) P0.1 hb1, cellBelow (w := W.drew) P0.2.1 hb1, cellBelow (w := W.drew) P0.2.2.1 hb1, cellBelow (w := W.drew) P0.2.2.2.1 hb1, cellBelow (w := W.drew) P0.2.2.2.2.1 hb1, cellBelow (w := W.drew) P0.2.2.2.2.2.1 hb1, cellBelow (w := W.drew) P0.2.2.2.2.2.2.1 hb1, cellBelow (w := W.drew) P0.2.2.2.2.2.2.2.1 hb1, cellBelow (w := W.drew) P0.2.2.2.2.2.2.2.2.1 hb1, cellBelow (w := W.drew) P0.2.2.2.2.2.2.2.2.2.1 hb1, cellBelow (w := W.drew) P0.2.2.2.2.2.2.2.2.2.2.1 hb1, cellBelow (w := W.drew) P0.2.2.2.2.2.2.2.2.2.2.2.1 hb1, cellBelow (w := W.drew) P0.2.2.2.2.2.2.2.2.2.2.2.2.1 hb1, cellBelow (w := W.drew) P0.2.2.2.2.2.2.2.2.2.2.2.2.2.1 hb1, cellBelow (w := W.drew) P0.2.2.2.2.2.2.2.2.2.2.2.2.2.2.1 hb1, cellBelow (w := W.drew) P0.2.2.2.2.2.2.2.2.2.2.2.2.2.2.2.1 hb1, cellBelow (w := W.drew) P0.2.2.2.2.2.2.2.2.2.2.2.2.2.2.2.2.1 hb1, cellBelow (w := W.drew) P0.2.2.2.2.2.2.2.2.2.2.2.2.2.2.2.2.2.1 hb1, cellBelow (w := W.drew) P0.2.2.2.2.2.2.2.2.2.2.2.2.2.2.2.2.2.2.1 hb1, cellBelow (w := W.drew) P0.2.2.2.2.2.2.2.2.2.2.2.2.2.2.2.2.2.2.2 hb1⟩
      have B1 := Lib.hid (BD.out.trans (hb1.mono BD.out.size))
      clear hb1
      refine hK.out _ _ P1 (fun _ => ?_)
      clear hK K
      refine GoX.take 3 rfl (by kernel_rfl) (by kernel_rfl) (by rfl) (fun _ _ _ h => h) (v := ?tv3g46) P1 ?ty3g46 ?tr3g46
      case ty3g46 => (intro w hSw; (try dsimp only at hSw); go_simp; first | done | with_reducible rfl)
      simp only [Act.put, List.setIfInBounds_toArray, List.set_cons_zero, List.set_cons_succ]
      refine GoX.take 4 rfl (by kernel_rfl) (by kernel_rfl) (by rfl) (fun _ _ _ h => h) (v := ?tv4g47) P1 ?ty4g47 ?tr4g47
      case ty4g47 => (intro w hSw; (try dsimp only at hSw); go_simp; first | done | with_reducible rfl)
      simp only [Act.put, List.setIfInBounds_toArray, List.set_cons_zero, List.set_cons_succ]
      refine GoX.take 5 rfl (by kernel_rfl) (by kernel_rfl) (by rfl) (fun _ _ _ h => h) (v := ?tv5g48) P1 ?ty5g48 ?tr5g48
      case ty5g48 => (intro w hSw; (try dsimp only at hSw); go_simp; first | done | with_reducible rfl)
      simp only [Act.put, List.setIfInBounds_toArray, List.set_cons_zero, List.set_cons_succ]
      refine GoX.take 6 rfl (by kernel_rfl) (by kernel_rfl) (by rfl) (fun _ _ _ h => h) (v := ?tv6g49) P1 ?ty6g49 ?tr6g49
      case ty6g49 => (intro w hSw; (try dsimp only at hSw); go_simp; first | done | with_reducible rfl)
      simp only [Act.put, List.setIfInBounds_toArray, List.set_cons_zero, List.set_cons_succ]
      refine GoX.one 7 rfl (by kernel_rfl) (by decide) (fun K hK => ?_)
      rw [if_pos (by rfl)]
      go_simp
      (with_reducible refine (HKA.out _ B1.out).mono ?_)
      rintro e w3 ⟨rfl, hb2⟩
      have P2 : w3.cell? ⟨w.heap.size, 0, none⟩ = some (PTR sb) ∧ w3.cell? ⟨w.heap.size + 1, 0, none⟩ = some (.int .u64 (T : Int)) ∧ w3.cell? ⟨w.heap.size + 1, 1, none⟩ = some (.int .i64 l) ∧ w3.cell? ⟨w.heap.size + 2, 0, none⟩ = some (.int .i64 (i : Int)) ∧ w3.cell? ⟨sb, 0, none⟩ = some (.slice (some ⟨b, o, none⟩) n c) ∧ w3.cell? ⟨b, o + i * 15, none⟩ = some (.int .i64 B.cl) ∧ w3.cell? ⟨b, o + i * 15 + 1, none⟩ = some (.int .i64 B.d) ∧ w3.cell? ⟨b, o + i * 15 + 2, none⟩ = some (.int .i64 B.st) ∧ w3.cell? ⟨b, o + i * 15 + 3, none⟩ = some (.int .i64 B.en) ∧ w3.cell? ⟨b, o + i * 15 + 4, none⟩ = some (.string B.key) ∧ w3.cell? ⟨b, o + i * 15 + 5, none⟩ = some (.slice x.1 x.2.1 x.2.2) ∧ w3.cell? ⟨b, o + i * 15 + 6, none⟩ = some (.int .i64 B.rop) ∧ w3.cell? ⟨b, o + i * 15 + 7, none⟩ = some (.int .i64 B.rdo) ∧ w3.cell? ⟨b, o + i * 15 + 8, none⟩ = some (.string B.rkey) ∧ w3.cell? ⟨b, o + i * 15 + 9, none⟩ = some (.slice y.1 y.2.1 y.2.2) ∧ w3.cell? ⟨b, o + i * 15 + 10, none⟩ = some (.int .i64 B.tn) ∧ w3.cell? ⟨b, o + i * 15 + 11, none⟩ = some (.int .i64 B.tc) ∧ w3.cell? ⟨b, o + i * 15 + 12, none⟩ = some (.int .i64 B.code) ∧ w3.cell? ⟨b, o + i * 15 + 13, none⟩ = some (.bool B.found) ∧ w3.cell? ⟨b, o + i * 15 + 14, none⟩ = some (.slice z.1 z.2.1 z.2.2) := ⟨cellBelow (w := w2) P1.1 hb2, cellBelow (w := w2) P1.2.1 hb2, cellBelow (w := w2) P1.2.2.1 hb2, cellBelow (w := w2) P1.2.2.2.1 hb2, cellBelow (w := w2) P1.2.2.2.2.1 hb2, cellBelow (w := w2) P1.2.2.2.2.2.1 hb2, cellBelow (w := w2) P1.2.2.2.2.2.2.1 hb2, cellBelow (w := w2) P1.2.2.2.2.2.2.2.1 hb2, cellBelow (w := w2) P1.2.2.2.2.2.2.2.2.1 hb2, cellBelow (w := w2) P1.2.2.2.2.2.2.2.2.2.1 hb2, cellBelow (w := w2) P1.2.2.2.2.2.2.2.2.2.2.1 hb2, cellBelow (w := w2) P1.2.2.2.2.2.2.2.2.2.2.2.1 hb2, cellBelow (w := w2) P1.2.2.2.2.2.2.2.2.2.2.2.2.1 hb2, cellBelow (w := w2) P1.2.2.2.2.2.2.2.2.2.2.2.2.2.1 hb2, cellBelow (w := w2) P1.2.2.2.2.2.2.2.2.2.2.2.2.2.2.1 hb2, cellBelow (w := w2) P1.2.2.2.2.2.2.2.2.2.2.2.2.2.2.2.1 hb2, cellBelow (w := w2) P1.2.2.2.2.2.2.2.2.2.2.2.2.2.2.2.2.1 hb2, cellBelow (w := w2) P1.2.2.2.2.2.2.2.2.2.2.2.2.2.2.2.2.2.1 hb2, cellBelow (w := w2) P1.2.2.2.2.2.2.2.2.2.2.2.2.2.2.2.2.2.2.1 hb2, cellBelow (w := w2) P1.2.2.2.2.2.2.2.2.2.2.2.2.2.2.2.2.2.2.2 hb2⟩
      have B2 := Lib.hid (B1.out.trans (hb2.mono B1.out.size))
      clear hb2
      refine hK.out _ _ P2 (fun _ => ?_)
      clear hK K
      refine GoX.take 8 rfl (by kernel_rfl) (by kernel_rfl) (by rfl) (fun _ _ _ h => h) (v := ?tv8g50) P2 ?ty8g50 ?tr8g50
      case ty8g50 => (intro w hSw; (try dsimp only at hSw); go_simp; first | done | with_reducible rfl)
      simp only [Act.put, List.setIfInBounds_toArray, List.set_cons_zero, List.set_cons_succ]
      refine GoX.take 9 rfl (by kernel_rfl) (by kernel_rfl) (by rfl) (fun _ _ _ h => h) (v := ?tv9g51) P2 ?ty9g51 ?tr9g51
      case ty9g51 => (intro w hSw; (try dsimp only at hSw); go_simp; first | done | with_reducible rfl)
      simp only [Act.put, List.setIfInBounds_toArray, List.set_cons_zero, List.set_cons_succ]
      refine GoX.take 10 rfl (by kernel_rfl) (by kernel_rfl) (by rfl) (fun _ _ _ h => h) (v := ?tv10g52) P2 ?ty10g52 ?tr10g52
      case ty10g52 => (intro w hSw; (try dsimp only at hSw); go_simp; first | done | with_reducible rfl)
      simp only [Act.put, List.setIfInBounds_toArray, List.set_cons_zero, List.set_cons_succ]
      refine GoX.take 11 rfl (by kernel_rfl) (by kernel_rfl) (by rfl) (fun _ _ _ h => h) (v := ?tv11g53) P2 ?ty11g53 ?tr11g53
      case ty11g53 => (intro w hSw; (try dsimp only at hSw); go_simp; first | done | with_reducible rfl)
      simp only [Act.put, List.setIfInBounds_toArray, List.set_cons_zero, List.set_cons_succ]
      refine GoX.take 12 rfl (by kernel_rfl) (by kernel_rfl) (by rfl) (fun _ _ _ h => h) (v := ?tv12g54) P2 ?ty12g54 ?tr12g54
      case ty12g54 => (intro w hSw; (try dsimp only at hSw); go_simp; first | done | with_reducible rfl)
      simp only [Act.put, List.setIfInBounds_toArray, List.set_cons_zero, List.set_cons_succ]
      refine GoX.take 13 rfl (by kernel_rfl) (by kernel_rfl) (by rfl) (fun _ _ _ h => h) (v := ?tv13g55) P2 ?ty13g55 ?tr13g55
      case ty13g55 => (intro w hSw; (try dsimp only at hSw); go_simp; first | done | with_reducible rfl)
      simp only [Act.put, List.setIfInBounds_toArray, List.set_cons_zero, List.set_cons_succ]
      refine GoX.take 14 rfl (by kernel_rfl) (by kernel_rfl) (by rfl) (fun _ _ _ h => h) (v := ?tv14g56) P2 ?ty14g56 ?tr14g56
      case ty14g56 => (intro w hSw; (try dsimp only at hSw); go_simp; first | done | with_reducible rfl)
      simp only [Act.put, List.setIfInBounds_toArray, List.set_cons_zero, List.set_cons_succ]
      refine GoX.take 15 rfl (by kernel_rfl) (by kernel_rfl) (by rfl) (fun _ _ _ h => h) (v := ?tv15g57) P2 ?ty15g57 ?tr15g57
      case ty15g57 => (intro w hSw; (try dsimp only at hSw); go_simp; first | done | with_reducible rfl)
      simp only [Act.put, List.setIfInBounds_toArray, List.set_cons_zero, List.set_cons_succ]
      refine GoX.take 16 rfl (by kernel_rfl) (by kernel_rfl) (by rfl) (fun _ _ _ h => h) (v := ?tv16g58) P2 ?ty16g58 ?tr16g58
      case ty16g58 => (intro w hSw; (try dsimp only at hSw); go_simp; first | done | with_reducible rfl)
      simp only [Act.put, List.setIfInBounds_toArray, List.set_cons_zero, List.set_cons_succ]
      refine GoX.take 17 rfl (by kernel_rfl) (by kernel_rfl) (by rfl) (fun _ _ _ h => h) (v := ?tv17g59) P2 ?ty17g59 ?tr17g59
      case ty17g59 => (intro w hSw; (try dsimp only at hSw); go_simp; first | done | with_reducible rfl)
      simp only [Act.put, List.setIfInBounds_toArray, List.set_cons_zero, List.set_cons_succ]
      refine GoX.take 18 rfl (by kernel_rfl) (by kernel_rfl) (by rfl) (fun _ _ _ h => h) (v := ?tv18g60) P2 ?ty18g60 ?tr18g60
      case ty18g60 => (intro w hSw; (try dsimp only at hSw); go_simp; first | done | with_reducible rfl)
      simp only [Act.put, List.setIfInBounds_toArray, List.set_cons_zero, List.set_cons_succ]
      refine GoX.take 19 rfl (by kernel_rfl) (by kernel_rfl) (by rfl) (fun _ _ _ h => h) (v := ?tv19g61) P2 ?ty19g61 ?tr19g61
      case ty19g61 => (intro w hSw; (try dsimp only at hSw); go_simp; first | done | with_reducible rfl)
      simp only [Act.put, List.setIfInBounds_toArray, List.set_cons_zero, List.set_cons_succ]
      refine GoX.take 20 rfl (by kernel_rfl) (by kernel_rfl) (by rfl) (fun _ _ _ h => h) (v := ?tv20g62) P2 ?ty20g62 ?tr20g62
      case ty20g62 => (intro w hSw; (try dsimp only at hSw); go_simp; first | done | with_reducible rfl)
      simp only [Act.put, List.setIfInBounds_toArray, List.set_cons_zero, List.set_cons_succ]
      refine GoX.one 21 rfl (by kernel_rfl) (by decide) (fun K hK => ?_)
      rw [if_pos (by rfl)]
      go_simp
      (with_reducible refine (HKF.out _ B2.out).mono ?_)
      rintro e w4 ⟨rfl, hb3⟩
      have P3 : w4.cell? ⟨w.heap.size, 0, none⟩ = some (PTR sb) ∧ w4.cell? ⟨w.heap.size + 1, 0, none⟩ = some (.int .u64 (T : Int)) ∧ w4.cell? ⟨w.heap.size + 1, 1, none⟩ = some (.int .i64 l) ∧ w4.cell? ⟨w.heap.size + 2, 0, none⟩ = some (.int .i64 (i : Int)) ∧ w4.cell? ⟨sb, 0, none⟩ = some (.slice (some ⟨b, o, none⟩) n c) ∧ w4.cell? ⟨b, o + i * 15, none⟩ = some (.int .i64 B.cl) ∧ w4.cell? ⟨b, o + i * 15 + 1, none⟩ = some (.int .i64 B.d) ∧ w4.cell? ⟨b, o + i * 15 + 2, none⟩ = some (.int .i64 B.st) ∧ w4.cell? ⟨b, o + i * 15 + 3, none⟩ = some (.int .i64 B.en) ∧ w4.cell? ⟨b, o + i * 15 + 4, none⟩ = some (.string B.key) ∧ w4.cell? ⟨b, o + i * 15 + 5, none⟩ = some (.slice x.1 x.2.1 x.2.2) ∧ w4.cell? ⟨b, o + i * 15 + 6, none⟩ = some (.int .i64 B.rop) ∧ w4.cell? ⟨b, o + i * 15 + 7, none⟩ = some (.int .i64 B.rdo) ∧ w4.cell? ⟨b, o + i * 15 + 8, none⟩ = some (.string B.rkey) ∧ w4.cell? ⟨b, o + i * 15 + 9, none⟩ = some (.slice y.1 y.2.1 y.2.2) ∧ w4.cell? ⟨b, o + i * 15 + 10, none⟩ = some (.int .i64 B.tn) ∧ w4.cell? ⟨b, o + i * 15 + 11, none⟩ = some (.int .i64 B.tc) ∧ w4.cell? ⟨b, o + i * 15 + 12, none⟩ = some (.int .i64 B.code) ∧ w4.cell? ⟨b, o + i * 15 + 13, none⟩ = some (.bool B.found) ∧ w4.cell? ⟨b, o + i * 15 + 14, none⟩ = some (.slice z.1 z.2.1 z.2.2) := ⟨cellBelow (w := w3) P2.1 hb3, cellBelow (w := w3) P2.2.1 hb3, cellBelow (w := w3) P2.2.2.1 hb3, cellBelow (w := w3) P2.2.2.2.1 hb3, cellBelow (w := w3) P2.2.2.2.2.1 hb3, cellBelow (w := w3) P2.2.2.2.2.2.1 hb3, cellBelow (w := w3) P2.2.2.2.2.2.2.1 hb3, cellBelow (w := w3) P2.2.2.2.2.2.2.2.1 hb3, cellBelow (w := w3) P2.2.2.2.2.2.2.2.2.1 hb3, cellBelow (w := w3) P2.2.2.2.2.2.2.2.2.2.1 hb3, cellBelow (w := w3) P2.2.2.2.2.2.2.2.2.2.2.1 hb3, cellBelow (w := w3) P2.2.2.2.2.2.2.2.2.2.2.2.1 hb3, cellBelow (w := w3) P2.2.2.2.2.2.2.2.2.2.2.2.2.1 hb3, cellBelow (w := w3) P2.2.2.2.2.2.2.2.2.2.2.2.2.2.1 hb3, cellBelow (w := w3) P2.2.2.2.2.2.2.2.2.2.2.2.2.2.2.1 hb3, cellBelow (w := w3) P2.2.2.2.2.2.2.2.2.2.2.2.2.2.2.2.1 hb3, cellBelow (w := w3) P2.2.2.2.2.2.2.2.2.2.2.2.2.2.2.2.2.1 hb3, cellBelow (w := w3) P2.2.2.2.2.2.2.2.2.2.2.2.2.2.2.2.2.2.1 hb3, cellBelow (w := w3) P2.2.2.2.2.2.2.2.2.2.2.2.2.2.2.2.2.2.2.1 hb3, cellBelow (w := w3) P2.2.2.2.2.2.2.2.2.2.2.2.2.2.2.2.2.2.2.2 hb3⟩
      have B3 := Lib.hid (B2.out.trans (hb3.mono B2.out.size))
      clear hb3
      refine hK.out _ _ P3 (fun _ => ?_)
      clear hK K
      refine GoX.take 22 rfl (by kernel_rfl) (by kernel_rfl) (by rfl) (fun _ _ _ h => h) (v := ?tv22g63) P3 ?ty22g63 ?tr22g63
      case ty22g63 => (intro w hSw; (try dsimp only at hSw); go_simp; first | done | with_reducible rfl)
      simp only [Act.put, List.setIfInBounds_toArray, List.set_cons_zero, List.set_cons_succ]
      refine GoX.last 23 rfl (by kernel_rfl) (by kernel_rfl) (by decide) ?_
      go_wp2
      go_ret
      exact ⟨rfl, HB.out.trans (B3.out.mono HB.out.size)⟩
    · go_enter Try.func45, Try.ntmps45
      go_upto_region 2 with fail
      refine (?_ : ∀ W : World, (Hid (Below w.heap.size w W) ∧ Hid (∀ V, Below W.heap.size W V → Calls Try.prog 57 #[PTR sb, .func (.func 54) #[] #[PTR (w.heap.size + 1), PTR w.heap.size, PTR (w.heap.size + 2)]] V fun e w' => e = .returned (.bool true) ∧ Below V.heap.size V w') ∧ Hid (∀ V, Below W.heap.size W V → Calls Try.prog 58 #[PTR sb, .int .i64 l, .agg #[.int .i64 B.cl, .int .i64 B.d, .int .i64 B.st, .int .i64 B.en, .string B.key, .slice x.1 x.2.1 x.2.2, .int .i64 B.rop, .int .i64 B.rdo, .string B.rkey, .slice y.1 y.2.1 y.2.2, .int .i64 B.tn, .int .i64 B.tc, .int .i64 B.code, .bool B.found, .slice z.1 z.2.1 z.2.2]] V fun e w' => e = .returned (.bool F) ∧ Below V.heap.size V w') ∧ W.cell? ⟨w.heap.size, 0, none⟩ = some (PTR sb) ∧ W.cell? ⟨w.heap.size + 1, 0, none⟩ = some (.int .u64 (T : Int)) ∧ W.cell? ⟨w.heap.size + 1, 1, none⟩ = some (.int .i64 l) ∧ W.cell? ⟨w.heap.size + 2, 0, none⟩ = some (.int .i64 (i : Int)) ∧ W.cell? ⟨sb, 0, none⟩ = some (.slice (some ⟨b, o, none⟩) n c) ∧ W.cell? ⟨b, o + i * 15, none⟩ = some (.int .i64 B.cl) ∧ W.cell? ⟨b, o + i * 15 + 1, none⟩ = some (.int .i64 B.d) ∧ W.cell? ⟨b, o + i * 15 + 2, none⟩ = some (.int .i64 B.st) ∧ W.cell? ⟨b, o + i * 15 + 3, none⟩ = some (.int .i64 B.en) ∧ W.cell? ⟨b, o + i * 15 + 4, none⟩ = some (.string B.key) ∧ W.cell? ⟨b, o + i * 15 + 5, none⟩ = some (.slice x.1 x.2.1 x.2.2) ∧ W.cell? ⟨b, o + i * 15 + 6, none⟩ = some (.int .i64 B.rop) ∧ W.cell? ⟨b, o + i * 15 + 7, none⟩ = some (.int .i64 B.rdo) ∧ W.cell? ⟨b, o + i * 15 + 8, none⟩ = some (.string B.rkey) ∧ W.cell? ⟨b, o + i * 15 + 9, none⟩ = some (.slice y.1 y.2.1 y.2.2) ∧ W.cell? ⟨b, o + i * 15 + 10, none⟩ = some (.int .i64 B.tn) ∧ W.cell? ⟨b, o + i * 15 + 11, none⟩ = some (.int .i64 B.tc) ∧ W.cell? ⟨b, o + i * 15 + 12, none⟩ = some (.int .i64 B.code) ∧ W.cell? ⟨b, o + i * 15 + 13, none⟩ = some (.bool B.found) ∧ W.cell? ⟨b, o + i * 15 + 14, none⟩ = some (.slice z.1 z.2.1 z.2.2)) → Code.wp Try.prog _ _ _ W) _ ⟨HB, HKA, HKF, s0, n0, n1, i0, q0, e0, e1, e2, e3, e4, e5, e6, e7, e8, e9, ea, eb, ec, ed, ee⟩
      clear HB HKA HKF s0 n0 n1 i0 q0 e0 e1 e2 e3 e4 e5 e6 e7 e8 e9 ea eb ec ed ee
      rintro W ⟨HB, HKA, HKF, s0, n0, n1, i0, q0, e0, e1, e2, e3, e4, e5, e6, e7, e8, e9, ea, eb, ec, ed, ee⟩
      have P0 : W.drew.cell? ⟨w.heap.size, 0, none⟩ = some (PTR sb) ∧ W.drew.cell? ⟨w.heap.size + 1, 0, none⟩ = some (.int .u64 (T : Int)) ∧ W.drew.cell? ⟨w.heap.size + 1, 1, none⟩ = some (.int .i64 l) ∧ W.drew.cell? ⟨w.heap.size + 2, 0, none⟩ = some (.int .i64 (i : Int)) ∧ W.drew.cell? ⟨sb, 0, none⟩ = some (.slice (some ⟨b, o, none⟩) n c) ∧ W.drew.cell? ⟨b, o + i * 15, none⟩ = some (.int .i64 B.cl) ∧ W.drew.cell? ⟨b, o + i * 15 + 1, none⟩ = some (.int .i64 B.d) ∧ W.drew.cell? ⟨b, o + i * 15 + 2, none⟩ = some (.int .i64 B.st) ∧ W.drew.cell? ⟨b, o + i * 15 + 3, none⟩ = some (.int .i64 B.en) ∧ W.drew.cell? ⟨b, o + i * 15 + 4, none⟩ = some (.string B.key) ∧ W.drew.cell? ⟨b, o + i * 15 + 5, none⟩ = some (.slice x.1 x.2.1 x.2.2) ∧ W.drew.cell? ⟨b, o + i * 15 + 6, none⟩ = some (.int .i64 B.rop) ∧ W.drew.cell? ⟨b, o + i * 15 + 7, none⟩ = some (.int .i64 B.rdo) ∧ W.drew.cell? ⟨b, o + i * 15 + 8, none⟩ = some (.string B.rkey) ∧ W.drew.cell? ⟨b, o + i * 15 + 9, none⟩ = some (.slice y.1 y.2.1 y.2.2) ∧ W.drew.cell? ⟨b, o + i * 15 + 10, none⟩ = some (.int .i64 B.tn) ∧ W.drew.cell? ⟨b, o + i * 15 + 11, none⟩ = some (.int .i64 B.tc) ∧ W.drew.cell? ⟨b, o + i * 15 + 12, none⟩ = some (.int .i64 B.code) ∧ W.drew.cell? ⟨b, o + i * 15 + 13, none⟩ = some (.bool B.found) ∧ W.drew.cell? ⟨b, o + i * 15 + 14, none⟩ = some (.slice z.1 z.2.1 z.2.2) := ⟨s0, n0, n1, i0, q0, e0, e1, e2, e3, e4, e5, e6, e7, e8, e9, ea, eb, ec, ed, ee⟩
      have BD : Hid (Below W.heap.size W W.drew) := Lib.hid (Below.refl _ _).drew
      refine GoX.start 23 (fun w' => w'.cell? ⟨w.heap.size, 0, none⟩ = some (PTR sb) ∧ w'.cell? ⟨w.heap.size + 1, 0, none⟩ = some (.int .u64 (T : Int)) ∧ w'.cell? ⟨w.heap.size + 1, 1, none⟩ = some (.int .i64 l) ∧ w'.cell? ⟨w.heap.size + 2, 0, none⟩ = some (.int .i64 (i : Int)) ∧ w'.cell? ⟨sb, 0, none⟩ = some (.slice (some ⟨b, o, none⟩) n c) ∧ w'.cell? ⟨b, o + i * 15, none⟩ = some (.int .i64 B.cl) ∧ w'.cell? ⟨b, o + i * 15 + 1, none⟩ = some (.int .i64 B.d) ∧ w'.cell? ⟨b, o + i * 15 + 2, none⟩ = some (.int .i64 B.st) ∧ w'.cell? ⟨b, o + i * 15 + 3, none⟩ = some (.int .i64 B.en) ∧ w'.cell? ⟨b, o + i * 15 + 4, none⟩ = some (.string B.key) ∧ w'.cell? ⟨b, o + i * 15 + 5, none⟩ = some (.slice x.1 x.2.1 x.2.2) ∧ w'.cell? ⟨b, o + i * 15 + 6, none⟩ = some (.int .i64 B.rop) ∧ w'.cell? ⟨b, o + i * 15 + 7, none⟩ = some (.int .i64 B.rdo) ∧ w'.cell? ⟨b, o + i * 15 + 8, none⟩ = some (.string B.rkey) ∧ w'.cell? ⟨b, o + i * 15 + 9, none⟩ = some (.slice y.1 y.2.1 y.2.2) ∧ w'.cell? ⟨b, o + i * 15 + 10, none⟩ = some (.int .i64 B.tn) ∧ w'.cell? ⟨b, o + i * 15 + 11, none⟩ = some (.int .i64 B.tc) ∧ w'.cell? ⟨b, o + i * 15 + 12, none⟩ = some (.int .i64 B.code) ∧ w'.cell? ⟨b, o + i * 15 + 13, none⟩ = some (.bool B.found) ∧ w'.cell? ⟨b, o + i * 15 + 14, none⟩ = some (.slice z.1 z.2.1 z.2.2)) (by kernel_rfl) ?_
      refine GoX.take 0 rfl (by kernel_rfl) (by kernel_rfl) (by rfl) (fun _ _ _ h => h) (v := ?tv0g64) P0 ?ty0g64 ?tr0g64
      case ty0g64 => (intro w hSw; (try dsimp only at hSw); go_simp; first | done | with_reducible rfl)
      simp only [Act.put, List.setIfInBounds_toArray, List.set_cons_zero, List.set_cons_succ]
      refine GoX.take 1 rfl (by kernel_rfl) (by kernel_rfl) (by rfl) (fun _ _ _ h => h) (v := ?tv1g65) P0 ?ty1g65 ?tr1g65
      case ty1g65 => (intro w hSw; (try dsimp only at hSw); go_simp; first | done | with_reducible rfl)
      simp only [Act.put, List.setIfInBounds_toArray, List.set_cons_zero, List.set_cons_succ]
      refine GoX.one 2 rfl (by kernel_rfl) (by decide) (fun K hK => ?_)
      rw [if_pos (by rfl)]
      go_simp
      (with_reducible refine (HKH.out _).mono ?_)
      rintro e w2 ⟨rfl, hb1⟩
      have P1 : w2.cell? ⟨w.heap.size, 0, none⟩ = some (PTR sb) ∧ w2.cell? ⟨w.heap.size + 1, 0, none⟩ = some (.int .u64 (T : Int)) ∧ w2.cell? ⟨w.heap.size + 1, 1, none⟩ = some (.int .i64 l) ∧ w2.cell? ⟨w.heap.size + 2, 0, none⟩ = some (.int .i64 (i : Int)) ∧ w2.cell? ⟨sb, 0, none⟩ = some (.slice (some ⟨b, o, none⟩) n c) ∧ w2.cell? ⟨b, o + i * 15, none⟩ = some (.int .i64 B.cl) ∧ w2.cell? ⟨b, o + i * 15 + 1, none⟩ = some (.int .i64 B.d) ∧ w2.cell? ⟨b, o + i * 15 + 2, none⟩ = some (.int .i64 B.st) ∧ w2.cell? ⟨b, o + i * 15 + 3, none⟩ = some (.int .i64 B.en) ∧ w2.cell? ⟨b, o + i * 15 + 4, none⟩ = some (.string B.key) ∧ w2.cell? ⟨b, o + i * 15 + 5, none⟩ = some (.slice x.1 x.2.1 x.2.2) ∧ w2.cell? ⟨b, o + i * 15 + 6, none⟩ = some (.int .i64 B.rop) ∧ w2.cell? ⟨b, o + i * 15 + 7, none⟩ = some (.int .i64 B.rdo) ∧ w2.cell? ⟨b, o + i * 15 + 8, none⟩ = some (.string B.rkey) ∧ w2.cell? ⟨b, o + i * 15 + 9, none⟩ = some (.slice y.1 y.2.1 y.2.2) ∧ w2.cell? ⟨b, o + i * 15 + 10, none⟩ = some (.int .i64 B.tn) ∧ w2.cell? ⟨b, o + i * 15 + 11, none⟩ = some (.int .i64 B.tc) ∧ w2.cell? ⟨b, o + i * 15 + 12, none⟩ = some (.int .i64 B.code) ∧ w2.cell? ⟨b, o + i * 15 + 13, none⟩ = some (.bool B.found) ∧ w2.cell? ⟨b, o + i * 15 + 14, none⟩ = some (.slice z.1 z.2.1 z.2.2) := ⟨cellBelow (w := W.drew) P0.1 hb1, cellBelow (w := W.drew) P0.2.1 hb1, cellBelow (w := W.drew) P0.2.2.1 hb1, cellBelow (w := W.drew) P0.2.2.2.1 hb1, cellBelow (w := W.drew) P0.2.2.2.2.1 hb1, cellBelow (w := W.drew) P0.2.2.2.2.2.1 hb1, cellBelow (w := W.drew) P0.2.2.2.2.2.2.1 hb1, cellBelow (w := W.drew) P0.2.2.2.2.2.2.2.1 hb1, cellBelow (w := W.drew) P0.2.2.2.2.2.2.2.2.1 hb1, cellBelow (w := W.drew) P0.2.2.2.2.2.2.2.2.2.1 hb1, cellBelow (w := W.drew) P0.2.2.2.2.2.2.2.2.2.2.1 hb1, cellBelow (w := W.drew) P0.2.2.2.2.2.2.2.2.2.2.2.1 hb1, cellBelow (w := W.drew) P0.2.2.2.2.2.2.2.2.2.2.2.2.1 hb1, cellBelow (w := W.drew) P0.2.2.2.2.2.2.2.2.2.2.2.2.2.1 hb1, cellBelow (w := W.drew) P0.2.2.2.2.2.2.2.2.2.2.2.2.2.2.1 hb1, cellBelow (w := W.drew) P0.2.2.2.2.2.2.2.2.2.2.2.2.2.2.2.1 hb1, cellBelow (w := W.drew) P0.2.2.2.2.2.2.2.2.2.2.2.2.2.2.2.2.1 hb1, cellBelow (w := W.drew) P0.2.2.2.2.2.2.2.2.2.2.2.2.2.2.2.2.2.1 hb1, cellBelow (w := W.drew) P0.2.2.2.2.2.2.2.2.2.2.2.2.2.2.2.2.2.2.1 hb1, cellBelow (w := W.drew) P0.2.2.2.2.2.2.2.2.2.2.2.2.2.2.2.2.2.2.2 hb1⟩
      have B1 := Lib.hid (BD.out.trans (hb1.mono BD.out.size))
      clear hb1
      refine hK.out _ _ P1 (fun _ => ?_)
      clear hK K
      refine GoX.take 3 rfl (by kernel_rfl) (by kernel_rfl) (by rfl) (fun _ _ _ h => h) (v := ?tv3g66) P1 ?ty3g66 ?tr3g66
      case ty3g66 => (intro w hSw; (try dsimp only at hSw); go_simp; first | done | with_reducible rfl)
      simp only [Act.put, List.setIfInBounds_toArray, List.set_cons_zero, List.set_cons_succ]
      refine GoX.take 4 rfl (by kernel_rfl) (by kernel_rfl) (by rfl) (fun _ _ _ h => h) (v := ?tv4g67) P1 ?ty4g67 ?tr4g67
      case ty4g67 => (intro w hSw; (try dsimp only at hSw); go_simp; first | done | with_reducible rfl)
      simp only [Act.put, List.setIfInBounds_toArray, List.set_cons_zero, List.set_cons_succ]
      refine GoX.take 5 rfl (by kernel_rfl) (by kernel_rfl) (by rfl) (fun _ _ _ h => h) (v := ?tv5g68) P1 ?ty5g68 ?tr5g68
      case ty5g68 => (intro w hSw; (try dsimp only at hSw); go_simp; first | done | with_reducible rfl)
      simp only [Act.put, List.setIfInBounds_toArray, List.set_cons_zero, List.set_cons_succ]
      refine GoX.take 6 rfl (by kernel_rfl) (by kernel_rfl) (by rfl) (fun _ _ _ h => h) (v := ?tv6g69) P1 ?ty6g69 ?tr6g69
      case ty6g69 => (intro w hSw; (try dsimp only at hSw); go_simp; first | done | with_reducible rfl)
      simp only [Act.put, List.setIfInBounds_toArray, List.set_cons_zero, List.set_cons_succ]
      refine GoX.one 7 rfl (by kernel_rfl) (by decide) (fun K hK => ?_)
      rw [if_pos (by rfl)]
      go_simp
      (with_reducible refine (HKA.out _ B1.out).mono ?_)
      rintro e w3 ⟨rfl, hb2⟩
      have P2 : w3.cell? ⟨w.heap.size, 0, none⟩ = some (PTR sb) ∧ w3.cell? ⟨w.heap.size + 1, 0, none⟩ = some (.int .u64 (T : Int)) ∧ w3.cell? ⟨w.heap.size + 1, 1, none⟩ = some (.int .i64 l) ∧ w3.cell? ⟨w.heap.size + 2, 0, none⟩ = some (.int .i64 (i : Int)) ∧ w3.cell? ⟨sb, 0, none⟩ = some (.slice (some ⟨b, o, none⟩) n c) ∧ w3.cell? ⟨b, o + i * 15, none⟩ = some (.int .i64 B.cl) ∧ w3.cell? ⟨b, o + i * 15 + 1, none⟩ = some (.int .i64 B.d) ∧ w3.cell? ⟨b, o + i * 15 + 2, none⟩ = some (.int .i64 B.st) ∧ w3.cell? ⟨b, o + i * 15 + 3, none⟩ = some (.int .i64 B.en) ∧ w3.cell? ⟨b, o + i * 15 + 4, none⟩ = some (.string B.key) ∧ w3.cell? ⟨b, o + i * 15 + 5, none⟩ = some (.slice x.1 x.2.1 x.2.2) ∧ w3.cell? ⟨b, o + i * 15 + 6, none⟩ = some (.int .i64 B.rop) ∧ w3.cell? ⟨b, o + i * 15 + 7, none⟩ = some (.int .i64 B.rdo) ∧ w3.cell? ⟨b, o + i * 15 + 8, none⟩ = some (.string B.rkey) ∧ w3.cell? ⟨b, o + i * 15 + 9, none⟩ = some (.slice y.1 y.2.1 y.2.2) ∧ w3.cell? ⟨b, o + i * 15 + 10, none⟩ = some (.int .i64 B.tn) ∧ w3.cell? ⟨b, o + i * 15 + 11, none⟩ = some (.int .i64 B.tc) ∧ w3.cell? ⟨b, o + i * 15 + 12, none⟩ = some (.int .i64 B.code) ∧ w3.cell? ⟨b, o + i * 15 + 13, none⟩ = some (.bool B.found) ∧ w3.cell? ⟨b, o + i * 15 + 14, none⟩ = some (.slice z.1 z.2.1 z.2.2) := ⟨cellBelow (w := w2) P1.1 hb2, cellBelow (w := w2) P1.2.1 hb2, cellBelow (w := w2) P1.2.2.1 hb2, cellBelow (w := w2) P1.2.2.2.1 hb2, cellBelow (w := w2) P1.2.2.2.2.1 hb2, cellBelow (w := w2) P1.2.2.2.2.2.1 hb2, cellBelow (w := w2) P1.2.2.2.2.2.2.1 hb2, cellBelow (w := w2) P1.2.2.2.2.2.2.2.1 hb2, cellBelow (w := w2) P1.2.2.2.2.2.2.2.2.1 hb2, cellBelow (w := w2) P1.2.2.2.2.2.2.2.2.2.1 hb2, cellBelow (w := w2) P1.2.2.2.2.2.2.2.2.2.2.1 hb2, cellBelow (w := w2) P1.2.2.2.2.2.2.2.2.2.2.2.1 hb2, cellBelow (w := w2) P1.2.2.2.2.2.2.2.2.2.2.2.2.1 hb2, cellBelow (w := w2) P1.2.2.2.2.2.2.2.2.2.2.2.2.2.1 hb2, cellBelow (w := w2) P1.2.2.2.2.2.2.2.2.2.2.2.2.2.2.1 hb2, cellBelow (w := w2) P1.2.2.2.2.2.2.2.2.2.2.2.2.2.2.2.1 hb2, cellBelow (w := w2) P1.2.2.2.2.2.2.2.2.2.2.2.2.2.2.2.2.1 hb2, cellBelow (w := w2) P1.2.2.2.2.2.2.2.2.2.2.2.2.2.2.2.2.2.1 hb2, cellBelow (w := w2) P1.2.2.2.2.2.2.2.2.2.2.2.2.2.2.2.2.2.2.1 hb2, cellBelow (w := w2) P1.2.2.2.2.2.2.2.2.2.2.2.2.2.2.2.2.2.2.2 hb2⟩
      have B2 := Lib.hid (B1.out.trans (hb2.mono B1.out.size))
      clear hb2
      refine hK.out _ _ P2 (fun _ => ?_)
      clear hK K
      refine GoX.take 8 rfl (by kernel_rfl) (by kernel_rfl) (by rfl) (fun _ _ _ h => h) (v := ?tv8g70) P2 ?ty8g70 ?tr8g70
      case ty8g70 => (intro w hSw; (try dsimp only at hSw); go_simp; first | done | with_reducible rfl)
      simp only [Act.put, List.setIfInBounds_toArray, List.set_cons_zero, List.set_cons_succ]
      refine GoX.take 9 rfl (by kernel_rfl) (by kernel_rfl) (by rfl) (fun _ _ _ h => h) (v := ?tv9g71) P2 ?ty9g71 ?tr9g71
      case ty9g71 => (intro w hSw; (try dsimp only at hSw); go_simp; first | done | with_reducible rfl)
      simp only [Act.put, List.setIfInBounds_toArray, List.set_cons_zero, List.set_cons_succ]
      refine GoX.take 10 rfl (by kernel_rfl) (by kernel_rfl) (by rfl) (fun _ _ _ h => h) (v := ?tv10g72) P2 ?ty10g72 ?tr10g72
      case ty10g72 => (intro w hSw; (try dsimp only at hSw); go_simp; first | done | with_reducible rfl)
      simp only [Act.put, List.setIfInBounds_toArray, List.set_cons_zero, List.set_cons_succ]
      refine GoX.skip 11 rfl (by kernel_rfl) (by kernel_rfl) (by rfl) (fun _ _ _ h => h) P2 ?_
      simp only [Act.put, List.setIfInBounds_toArray, List.set_cons_zero, List.set_cons_succ]
      refine GoX.skip 12 rfl (by kernel_rfl) (by kernel_rfl) (by rfl) (fun _ _ _ h => h) P2 ?_
      simp only [Act.put, List.setIfInBounds_toArray, List.set_cons_zero, List.set_cons_succ]
      refine GoX.skip 13 rfl (by kernel_rfl) (by kernel_rfl) (by rfl) (fun _ _ _ h => h) P2 ?_
      simp only [Act.put, List.setIfInBounds_toArray, List.set_cons_zero, List.set_cons_succ]
      refine GoX.skip 14 rfl (by kernel_rfl) (by kernel_rfl) (by rfl) (fun _ _ _ h => h) P2 ?_
      simp only [Act.put, List.setIfInBounds_toArray, List.set_cons_zero, List.set_cons_succ]
      refine GoX.skip 15 rfl (by kernel_rfl) (by kernel_rfl) (by rfl) (fun _ _ _ h => h) P2 ?_
      simp only [Act.put, List.setIfInBounds_toArray, List.set_cons_zero, List.set_cons_succ]
      refine GoX.skip 16 rfl (by kernel_rfl) (by kernel_rfl) (by rfl) (fun _ _ _ h => h) P2 ?_
      simp only [Act.put, List.setIfInBounds_toArray, List.set_cons_zero, List.set_cons_succ]
      refine GoX.skip 17 rfl (by kernel_rfl) (by kernel_rfl) (by rfl) (fun _ _ _ h => h) P2 ?_
      simp only [Act.put, List.setIfInBounds_toArray, List.set_cons_zero, List.set_cons_succ]
      refine GoX.skip 18 rfl (by kernel_rfl) (by kernel_rfl) (by rfl) (fun _ _ _ h => h) P2 ?_
      simp only [Act.put, List.setIfInBounds_toArray, List.set_cons_zero, List.set_cons_succ]
      refine GoX.skip 19 rfl (by kernel_rfl) (by kernel_rfl) (by rfl) (fun _ _ _ h => h) P2 ?_
      simp only [Act.put, List.setIfInBounds_toArray, List.set_cons_zero, List.set_cons_succ]
      refine GoX.skip 20 rfl (by kernel_rfl) (by kernel_rfl) (by rfl) (fun _ _ _ h => h) P2 ?_
      simp only [Act.put, List.setIfInBounds_toArray, List.set_cons_zero, List.set_cons_succ]
      refine GoX.skip 21 rfl (by kernel_rfl) (by kernel_rfl) (by rfl) (fun _ _ _ h => h) P2 ?_
      simp only [Act.put, List.setIfInBounds_toArray, List.set_cons_zero, List.set_cons_succ]
      refine GoX.take 22 rfl (by kernel_rfl) (by kernel_rfl) (by rfl) (fun _ _ _ h => h) (v := ?tv22g73) P2 ?ty22g73 ?tr22g73
      case ty22g73 => (intro w hSw; (try dsimp only at hSw); go_simp; first | done | with_reducible rfl)
      simp only [Act.put, List.setIfInBounds_toArray, List.set_cons_zero, List.set_cons_succ]
      refine GoX.last 23 rfl (by kernel_rfl) (by kernel_rfl) (by decide) ?_
      go_wp2
      go_ret
      exact ⟨rfl, HB.out.trans (B2.out.mono HB.out.size)⟩
  · go_enter Try.func45, Try.ntmps45
    go_upto_region 2 with fail
    refine (?_ : ∀ W : World, (Hid (Below w.heap.size w W) ∧ Hid (∀ V, Below W.heap.size W V → Calls Try.prog 57 #[PTR sb, .func (.func 54) #[] #[PTR (w.heap.size + 1), PTR w.heap.size, PTR (w.heap.size + 2)]] V fun e w' => e = .returned (.bool L) ∧ Below V.heap.size V w') ∧ Hid (∀ V, Below W.heap.size W V → Calls Try.prog 58 #[PTR sb, .int .i64 l, .agg #[.int .i64 B.cl, .int .i64 B.d, .int .i64 B.st, .int .i64 B.en, .string B.key, .slice x.1 x.2.1 x.2.2, .int .i64 B.rop, .int .i64 B.rdo, .string B.rkey, .slice y.1 y.2.1 y.2.2, .int .i64 B.tn, .int .i64 B.tc, .int .i64 B.code, .bool B.found, .slice z.1 z.2.1 z.2.2]] V fun e w' => e = .returned (.bool F) ∧ Below V.heap.size V w') ∧ W.cell? ⟨w.heap.size, 0, none⟩ = some (PTR sb) ∧ W.cell? ⟨w.heap.size + 1, 0, none⟩ = some (.int .u64 (T : Int)) ∧ W.cell? ⟨w.heap.size + 1, 1, none⟩ = some (.int .i64 l) ∧ W.cell? ⟨w.heap.size + 2, 0, none⟩ = some (.int .i64 (i : Int)) ∧ W.cell? ⟨sb, 0, none⟩ = some (.slice (some ⟨b, o, none⟩) n c) ∧ W.cell? ⟨b, o + i * 15, none⟩ = some (.int .i64 B.cl) ∧ W.cell? ⟨b, o + i * 15 + 1, none⟩ = some (.int .i64 B.d) ∧ W.cell? ⟨b, o + i * 15 + 2, none⟩ = some (.int .i64 B.st) ∧ W.cell? ⟨b, o + i * 15 + 3, none⟩ = some (.int .i64 B.en) ∧ W.cell? ⟨b, o + i * 15 + 4, none⟩ = some (.string B.key) ∧ W.cell? ⟨b, o + i * 15 + 5, none⟩ = some (.slice x.1 x.2.1 x.2.2) ∧ W.cell? ⟨b, o + i * 15 + 6, none⟩ = some (.int .i64 B.rop) ∧ W.cell? ⟨b, o + i * 15 + 7, none⟩ = some (.int .i64 B.rdo) ∧ W.cell? ⟨b, o + i * 15 + 8, none⟩ = some (.string B.rkey) ∧ W.cell? ⟨b, o + i * 15 + 9, none⟩ = some (.slice y.1 y.2.1 y.2.2) ∧ W.cell? ⟨b, o + i * 15 + 10, none⟩ = some (.int .i64 B.tn) ∧ W.cell? ⟨b, o + i * 15 + 11, none⟩ = some (.int .i64 B.tc) ∧ W.cell? ⟨b, o + i * 15 + 12, none⟩ = some (.int .i64 B.code) ∧ W.cell? ⟨b, o + i * 15 + 13, none⟩ = some (.bool B.found) ∧ W.cell? ⟨b, o + i * 15 + 14, none⟩ = some (.slice z.1 z.2.1 z.2.2)) → Code.wp Try.prog _ _ _ W) _ ⟨HB, HKA, HKF, s0, n0, n1, i0, q0, e0, e1, e2, e3, e4, e5, e6, e7, e8, e9, ea, eb, ec, ed, ee⟩
    clear HB HKA HKF s0 n0 n1 i0 q0 e0 e1 e2 e3 e4 e5 e6 e7 e8 e9 ea eb ec ed ee
    rintro W ⟨HB, HKA, HKF, s0, n0, n1, i0, q0, e0, e1, e2, e3, e4, e5, e6, e7, e8, e9, ea, eb, ec, ed, ee⟩
    have P0 : W.drew.cell? ⟨w.heap.size, 0, none⟩ = some (PTR sb) ∧ W.drew.cell? ⟨w.heap.size + 1, 0, none⟩ = some (.int .u64 (T : Int)) ∧ W.drew.cell? ⟨w.heap.size + 1, 1, none⟩ = some (.int .i64 l) ∧ W.drew.cell? ⟨w.heap.size + 2, 0, none⟩ = some (.int .i64 (i : Int)) ∧ W.drew.cell? ⟨sb, 0, none⟩ = some (.slice (some ⟨b, o, none⟩) n c) ∧ W.drew.cell? ⟨b, o + i * 15, none⟩ = some (.int .i64 B.cl) ∧ W.drew.cell? ⟨b, o + i * 15 + 1, none⟩ = some (.int .i64 B.d) ∧ W.drew.cell? ⟨b, o + i * 15 + 2, none⟩ = some (.int .i64 B.st) ∧ W.drew.cell? ⟨b, o + i * 15 + 3, none⟩ = some (.int .i64 B.en) ∧ W.drew.cell? ⟨b, o + i * 15 + 4, none⟩ = some (.string B.key) ∧ W.drew.cell? ⟨b, o + i * 15 + 5, none⟩ = some (.slice x.1 x.2.1 x.2.2) ∧ W.drew.cell? ⟨b, o + i * 15 + 6, none⟩ = some (.int .i64 B.rop) ∧ W.drew.cell? ⟨b, o + i * 15 + 7, none⟩ = some (.int .i64 B.rdo) ∧ W.drew.cell? ⟨b, o + i * 15 + 8, none⟩ = some (.string B.rkey) ∧ W.drew.cell? ⟨b, o + i * 15 + 9, none⟩ = some (.slice y.1 y.2.1 y.2.2) ∧ W.drew.cell? ⟨b, o + i * 15 + 10, none⟩ = some (.int .i64 B.tn) ∧ W.drew.cell? ⟨b, o + i * 15 + 11, none⟩ = some (.int .i64 B.tc) ∧ W.drew.cell? ⟨b, o + i * 15 + 12, none⟩ = some (.int .i64 B.code) ∧ W.drew.cell? ⟨b, o + i * 15 + 13, none⟩ = some (.bool B.found) ∧ W.drew.cell? ⟨b, o + i * 15 + 14, none⟩ = some (.slice z.1 z.2.1 z.2.2) := ⟨s0, n0, n1, i0, q0, e0, e1, e2, e3, e4, e5, e6, e7, e8, e9, ea, eb, ec, ed, ee⟩
    have BD : Hid (Below W.heap.size W W.drew) := Lib.hid (Below.refl _ _).drew
    refine GoX.start 23 (fun w' => w'.cell? ⟨w.heap.size, 0, none⟩ = some (PTR sb) ∧ w'.cell? ⟨w.heap.size + 1, 0, none⟩ = some (.int .u64 (T : Int)) ∧ w'.cell? ⟨w.heap.size + 1, 1, none⟩ = some (.int .i64 l) ∧ w'.cell? ⟨w.heap.size + 2, 0, none⟩ = some (.int .i64 (i : Int)) ∧ w'.cell? ⟨sb, 0, none⟩ = some (.slice (some ⟨b, o, none⟩) n c) ∧ w'.cell? ⟨b, o + i * 15, none⟩ = some (.int .i64 B.cl) ∧ w'.cell? ⟨b, o + i * 15 + 1, none⟩ = some (.int .i64 B.d) ∧ w'.cell? ⟨b, o + i * 15 + 2, none⟩ = some (.int .i64 B.st) ∧ w'.cell? ⟨b, o + i * 15 + 3, none⟩ = some (.int .i64 B.en) ∧ w'.cell? ⟨b, o + i * 15 + 4, none⟩ = some (.string B.key) ∧ w'.cell? ⟨b, o + i * 15 + 5, none⟩ = some (.slice x.1 x.2.1 x.2.2) ∧ w'.cell? ⟨b, o + i * 15 + 6, none⟩ = some (.int .i64 B.rop) ∧ w'.cell? ⟨b, o + i * 15 + 7, none⟩ = some (.int .i64 B.rdo) ∧ w'.cell? ⟨b, o + i * 15 + 8, none⟩ = some (.string B.rkey) ∧ w'.cell? ⟨b, o + i * 15 + 9, none⟩ = some (.slice y.1 y.2.1 y.2.2) ∧ w'.cell? ⟨b, o + i * 15 + 10, none⟩ = some (.int .i64 B.tn) ∧ w'.cell? ⟨b, o + i * 15 + 11, none⟩ = some (.int .i64 B.tc) ∧ w'.cell? ⟨b, o + i * 15 + 12, none⟩ = some (.int .i64 B.code) ∧ w'.cell? ⟨b, o + i * 15 + 13, none⟩ = some (.bool B.found) ∧ w'.cell? ⟨b, o + i * 15 + 14, none⟩ = some (.slice z.1 z.2.1 z.2.2)) (by kernel_rfl) ?_
    refine GoX.take 0 rfl (by kernel_rfl) (by kernel_rfl) (by rfl) (fun _ _ _ h => h) (v := ?tv0g74) P0 ?ty0g74 ?tr0g74
    case ty0g74 => (intro w hSw; (try dsimp only at hSw); go_simp; first | done | with_reducible rfl)
    simp only [Act.put, List.setIfInBounds_toArray, List.set_cons_zero, List.set_cons_succ]
    refine GoX.take 1 rfl (by kernel_rfl) (by kernel_rfl) (by rfl) (fun _ _ _ h => h) (v := ?tv1g75) P0 ?ty1g75 ?tr1g75
    case ty1g75 => (intro w hSw; (try dsimp only at hSw); go_simp; first | done | with_reducible rfl)
    simp only [Act.put, List.setIfInBounds_toArray, List.set_cons_zero, List.set_cons_succ]
    refine GoX.one 2 rfl (by kernel_rfl) (by decide) (fun K hK => ?_)
    rw [if_pos (by rfl)]
    go_simp
    (with_reducible refine (HKH.out _).mono ?_)
    rintro e w2 ⟨rfl, hb1⟩
    have P1 : w2.cell? ⟨w.heap.size, 0, none⟩ = some (PTR sb) ∧ w2.cell? ⟨w.heap.size + 1, 0, none⟩ = some (.int .u64 (T : Int)) ∧ w2.cell? ⟨w.heap.size + 1, 1, none⟩ = some (.int .i64 l) ∧ w2.cell? ⟨w.heap.size + 2, 0, none⟩ = some (.int .i64 (i : Int)) ∧ w2.cell? ⟨sb, 0, none⟩ = some (.slice (some ⟨b, o, none⟩) n c) ∧ w2.cell? ⟨b, o + i * 15, none⟩ = some (.int .i64 B.cl) ∧ w2.cell? ⟨b, o + i * 15 + 1, none⟩ = some (.int .i64 B.d) ∧ w2.cell? ⟨b, o + i * 15 + 2, none⟩ = some (.int .i64 B.st) ∧ w2.cell? ⟨b, o + i * 15 + 3, none⟩ = some (.int .i64 B.en) ∧ w2.cell? ⟨b, o + i * 15 + 4, none⟩ = some (.string B.key) ∧ w2.cell? ⟨b, o + i * 15 + 5, none⟩ = some (.slice x.1 x.2.1 x.2.2) ∧ w2.cell? ⟨b, o + i * 15 + 6, none⟩ = some (.int .i64 B.rop) ∧ w2.cell? ⟨b, o + i * 15 + 7, none⟩ = some (.int .i64 B.rdo) ∧ w2.cell? ⟨b, o + i * 15 + 8, none⟩ = some (.string B.rkey) ∧ w2.cell? ⟨b, o + i * 15 + 9, none⟩ = some (.slice y.1 y.2.1 y.2.2) ∧ w2.cell? ⟨b, o + i * 15 + 10, none⟩ = some (.int .i64 B.tn) ∧ w2.cell? ⟨b, o + i * 15 + 11, none⟩ = some (.int .i64 B.tc) ∧ w2.cell? ⟨b, o + i * 15 + 12, none⟩ = some (.int .i64 B.code) ∧ w2.cell? ⟨b, o + i * 15 + 13, none⟩ = some (.bool B.found) ∧ w2.cell? ⟨b, o + i * 15 + 14, none⟩ = some (.slice z.1 z.2.1 z.2.2) := ⟨cellBelow (w := W.drew) P0.1 hb1, cellBelow (w := W.drew) P0.2.1 hb1, cellBelow (w := W.drew) P0.2.2.1 hb1, cellBelow (w := W.drew) P0.2.2.2.1 hb1, cellBelow (w := W.drew) P0.2.2.2.2.1 hb1, cellBelow (w := W.drew) P0.2.2.2.2.2.1 hb1, cellBelow (w := W.drew) P0.2.2.2.2.2.2.1 hb1, cellBelow (w := W.drew) P0.2.2.2.2.2.2.2.1 hb1, cellBelow (w := W.drew) P0.2.2.2.2.2.2.2.2.1 hb1, cellBelow (w := W.drew) P0.2.2.2.2.2.2.2.2.2.1 hb1, cellBelow (w := W.drew) P0.2.2.2.2.2.2.2.2.2.2.1 hb1, cellBelow (w := W.drew) P0.2.2.2.2.2.2.2.2.2.2.2.1 hb1, cellBelow (w := W.drew) P0.2.2.2.2.2.2.2.2.2.2.2.2.1 hb1, cellBelow (w := W.drew) P0.2.2.2.2.2.2.2.2.2.2.2.2.2.1 hb1, cellBelow (w := W.drew) P0.2.2.2.2.2.2.2.2.2.2.2.2.2.2.1 hb1, cellBelow (w := W.drew) P0.2.2.2.2.2.2.2.2.2.2.2.2.2.2.2.1 hb1, cellBelow (w := W.drew) P0.2.2.2.2.2.2.2.2.2.2.2.2.2.2.2.2.1 hb1, cellBelow (w := W.drew) P0.2.2.2.2.2.2.2.2.2.2.2.2.2.2.2.2.2.1 hb1, cellBelow (w := W.drew) P0.2.2.2.2.2.2.2.2.2.2.2.2.2.2.2.2.2.2.1 hb1, cellBelow (w := W.drew) P0.2.2.2.2.2.2.2.2.2.2.2.2.2.2.2.2.2.2.2 hb1⟩
    have B1 := Lib.hid (BD.out.trans (hb1.mono BD.out.size))
    clear hb1
    refine hK.out _ _ P1 (fun _ => ?_)
    clear hK K
    refine GoX.take 3 rfl (by kernel_rfl) (by kernel_rfl) (by rfl) (fun _ _ _ h => h) (v := ?tv3g76) P1 ?ty3g76 ?tr3g76
    case ty3g76 => (intro w hSw; (try dsimp only at hSw); go_simp; first | done | with_reducible rfl)
    simp only [Act.put, List.setIfInBounds_toArray, List.set_cons_zero, List.set_cons_succ]
    refine GoX.take 4 rfl (by kernel_rfl) (by kernel_rfl) (by rfl) (fun _ _ _ h => h) (v := ?tv4g77) P1 ?ty4g77 ?tr4g77
    case ty4g77 => (intro w hSw; (try dsimp only at hSw); go_simp; first | done | with_reducible rfl)
    simp only [Act.put, List.setIfInBounds_toArray, List.set_cons_zero, List.set_cons_succ]
    refine GoX.skip 5 rfl (by kernel_rfl) (by kernel_rfl) (by rfl) (fun _ _ _ h => h) P1 ?_
    simp only [Act.put, List.setIfInBounds_toArray, List.set_cons_zero, List.set_cons_succ]
    refine GoX.skip 6 rfl (by kernel_rfl) (by kernel_rfl) (by rfl) (fun _ _ _ h => h) P1 ?_
    simp only [Act.put, List.setIfInBounds_toArray, List.set_cons_zero, List.set_cons_succ]
    refine GoX.skip 7 rfl (by kernel_rfl) (by kernel_rfl) (by rfl) (fun _ _ _ h => h) P1 ?_
    simp only [Act.put, List.setIfInBounds_toArray, List.set_cons_zero, List.set_cons_succ]
    refine GoX.skip 8 rfl (by kernel_rfl) (by kernel_rfl) (by rfl) (fun _ _ _ h => h) P1 ?_
    simp only [Act.put, List.setIfInBounds_toArray, List.set_cons_zero, List.set_cons_succ]
    refine GoX.take 9 rfl (by kernel_rfl) (by kernel_rfl) (by rfl) (fun _ _ _ h => h) (v := ?tv9g78) P1 ?ty9g78 ?tr9g78
    case ty9g78 => (intro w hSw; (try dsimp only at hSw); go_simp; first | done | with_reducible rfl)
    simp only [Act.put, List.setIfInBounds_toArray, List.set_cons_zero, List.set_cons_succ]
    refine GoX.take 10 rfl (by kernel_rfl) (by kernel_rfl) (by rfl) (fun _ _ _ h => h) (v := ?tv10g79) P1 ?ty10g79 ?tr10g79
    case ty10g79 => (intro w hSw; (try dsimp only at hSw); go_simp; first | done | with_reducible rfl)
    simp only [Act.put, List.setIfInBounds_toArray, List.set_cons_zero, List.set_cons_succ]
    refine GoX.skip 11 rfl (by kernel_rfl) (by kernel_rfl) (by rfl) (fun _ _ _ h => h) P1 ?_
    simp only [Act.put, List.setIfInBounds_toArray, List.set_cons_zero, List.set_cons_succ]
    refine GoX.skip 12 rfl (by kernel_rfl) (by kernel_rfl) (by rfl) (fun _ _ _ h => h) P1 ?_
    simp only [Act.put, List.setIfInBounds_toArray, List.set_cons_zero, List.set_cons_succ]
    refine GoX.skip 13 rfl (by kernel_rfl) (by kernel_rfl) (by rfl) (fun _ _ _ h => h) P1 ?_
    simp only [Act.put, List.setIfInBounds_toArray, List.set_cons_zero, List.set_cons_succ]
    refine GoX.skip 14 rfl (by kernel_rfl) (by kernel_rfl) (by rfl) (fun _ _ _ h => h) P1 ?_
    simp only [Act.put, List.setIfInBounds_toArray, List.set_cons_zero, List.set_cons_succ]
    refine GoX.skip 15 rfl (by kernel_rfl) (by kernel_rfl) (by rfl) (fun _ _ _ h => h) P1 ?_
    simp only [Act.put, List.setIfInBounds_toArray, List.set_cons_zero, List.set_cons_succ]
    refine GoX.skip 16 rfl (by kernel_rfl) (by kernel_rfl) (by rfl) (fun _ _ _ h => h) P1 ?_
    simp only [Act.put, List.setIfInBounds_toArray, List.set_cons_zero, List.set_cons_succ]
    refine GoX.skip 17 rfl (by kernel_rfl) (by kernel_rfl) (by rfl) (fun _ _ _ h => h) P1 ?_
    simp only [Act.put, List.setIfInBounds_toArray, List.set_cons_zero, List.set_cons_succ]
    refine GoX.skip 18 rfl (by kernel_rfl) (by kernel_rfl) (by rfl) (fun _ _ _ h => h) P1 ?_
    simp only [Act.put, List.setIfInBounds_toArray, List.set_cons_zero, List.set_cons_succ]
    refine GoX.skip 19 rfl (by kernel_rfl) (by kernel_rfl) (by rfl) (fun _ _ _ h => h) P1 ?_
    simp only [Act.put, List.setIfInBounds_toArray, List.set_cons_zero, List.set_cons_succ]
    refine GoX.skip 20 rfl (by kernel_rfl) (by kernel_rfl) (by rfl) (fun _ _ _ h => h) P1 ?_
    simp only [Act.put, List.setIfInBounds_toArray, List.set_cons_zero, List.set_cons_succ]
    refine GoX.skip 21 rfl (by kernel_rfl) (by kernel_rfl) (by rfl) (fun _ _ _ h => h) P1 ?_
    simp only [Act.put, List.setIfInBounds_toArray, List.set_cons_zero, List.set_cons_succ]
    refine GoX.take 22 rfl (by kernel_rfl) (by kernel_rfl) (by rfl) (fun _ _ _ h => h) (v := ?tv22g80) P1 ?ty22g80 ?tr22g80
    case ty22g80 => (intro w hSw; (try dsimp only at hSw); go_simp; first | done | with_reducible rfl)
    simp only [Act.put, List.setIfInBounds_toArray, List.set_cons_zero, List.set_cons_succ]
    refine GoX.last 23 rfl (by kernel_rfl) (by kernel_rfl) (by decide) ?_
    go_wp2
    go_ret
    exact ⟨rfl, HB.out.trans (B1.out.mono HB.out.size)⟩
end Go.Proofs.Ytnefcbcioemfiaa
